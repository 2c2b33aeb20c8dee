package refs_test

import (
	"math"
	"testing"

	"codicil/api"
	"codicil/refs"
)

// P16.3: times below, among and above those of all notes; and again behind itself.
func TestDrop(t *testing.T) {
	for _, before := range []int{math.MinInt, -1, 0, 5, 6, 7, 8, 9, 10, 11, 1 << 40, math.MaxInt} {
		for n := range 4 {
			s := three()[:n]
			files := byPaths(s.files(), []api.File{{Path: "a", Data: []byte("x")}, {Path: "reftable/x"}, {Path: "z"}})
			behind, files := wantDropped(t, "tables", s, files, before)
			if n > 0 && (len(behind) != 1 || behind[0].min != 1 || behind[0].max != s.last()) {
				t.Fatalf("Drop leaves %v", behind)
			}
			if list, e := refs.Drop(files, before); len(list) != 0 || e != api.OK {
				t.Errorf("Drop(%d) again: %q, error %d", before, told(list), e)
			}
			wantUpdated(t, "behind Drop", behind, files, me(20), "m", set(at(mainName, 99)), set(at("refs/heads/new", 1)))
		}
	}
}

// P16.3: just the notes of a time below go, whatever their numbers.
func TestDropByTime(t *testing.T) {
	_, files := wantDropped(t, "three tables", three(), three().files(), 8)
	for name, wanted := range map[string][]int{"HEAD": {3, 1}, "refs/heads/a": {2}, "refs/heads/b": nil, "refs/heads/d": nil, mainName: nil} {
		notes, _ := refs.Notes(files, name)
		if len(notes) != len(wanted) {
			t.Fatalf("Notes(%s): %v, wanted the numbers %v", name, notes, wanted)
		}
		for i, n := range notes {
			if n.Index != wanted[i] {
				t.Errorf("Notes(%s): %v, wanted the numbers %v", name, notes, wanted)
			}
		}
	}
}

// P16.3: without a table there is nothing to drop.
func TestDropNothing(t *testing.T) {
	for _, files := range [][]api.File{nil, {}, {{Path: "a"}}, {{Path: listPath}}} {
		if list, e := refs.Drop(files, 1<<40); len(list) != 0 || e != api.OK {
			t.Errorf("Drop without a table: %q, error %d", told(list), e)
		}
	}
}

// P16.3: one table whose records say that references are gone becomes one without them.
func TestDropGone(t *testing.T) {
	s := stack{{[]api.Ref{at("refs/heads/a", 1), gone("refs/heads/b")}, []api.Note{note("refs/heads/b", 1, 1, 0, 5)}, 1, 1}}
	behind, files := wantDropped(t, "a record of one that is gone", s, s.files(), 0)
	if len(behind[0].refs) != 1 || len(files) != 2 {
		t.Errorf("Drop leaves %v", behind)
	}
	s = stack{{[]api.Ref{at("refs/heads/a", 1)}, []api.Note{note("refs/heads/a", 1, 0, 1, 5)}, 1, 1}}
	list, e := refs.Drop(s.files(), 6)
	if len(list) != 1 || e != api.OK || list[0].Path != "reftable/000000000001-000000000001.ref" || list[0].Gone {
		t.Errorf("Drop of one table's note: %q, error %d", told(list), e)
	}
	if list, e := refs.Drop(s.files(), 5); len(list) != 0 || e != api.OK {
		t.Errorf("Drop of nothing of one table: %q, error %d", told(list), e)
	}
}

// P16.3: files that stand with the same bytes are no change.
func TestDropStandsAlready(t *testing.T) {
	s := three()
	one := s.dropped(8)[0].file()
	files := byPaths(s.files(), []api.File{one})
	list, e := refs.Drop(files, 8)
	if len(list) != 4 || e != api.OK || list[3].Path != listPath {
		t.Errorf("Drop where the one table stands: %q, error %d", told(list), e)
	}
	wantDropped(t, "the one table stands", s, files, 8)
	files = byPaths(s.files(), []api.File{{Path: one.Path, Data: []byte("x")}})
	wantDropped(t, "something else stands there", s, files, 8)
}
