package maint_test

import (
	"fmt"
	"slices"
	"testing"

	"codicil/api"
	"codicil/maint"
	"codicil/odb"
	"codicil/refs"
	"codicil/repo"
	"codicil/seq"
)

const most = 1 << 40

// P26.2, P26.3: notes go that are older than keep, and what they alone needed; all else stays.
func TestGc(t *testing.T) {
	files, _ := rich()
	all, _ := refs.AllNotes(files)
	last := 0
	for _, n := range all {
		last = max(last, n.Who.Time)
	}
	before, _ := odb.Ids(files)
	count := len(before)
	for keep := last + 2; keep >= 0; keep-- {
		got, e := wantGc(t, fmt.Sprint("keep ", keep), files, last+1, keep)
		if e != api.OK || !wantFsck(t, "behind it", got) {
			t.Fatalf("keep %d: error %d", keep, e)
		}
		ids, _ := odb.Ids(got)
		notes, _ := refs.AllNotes(got)
		if len(ids) > count || len(ids) == len(before) {
			t.Errorf("keep %d: %d objects, %d are there with more notes", keep, len(ids), count)
		}
		if count = len(ids); keep == 0 && (len(notes) != 0 || count > 20) || keep > last && len(notes) != len(all) {
			t.Errorf("keep %d: %d notes, %d objects", keep, len(notes), count)
		}
		// A second one changes nothing.
		if again, e := wantGc(t, "again", got, last+1, keep); e != api.OK || !sameFiles(again, got) {
			t.Errorf("keep %d: again, error %d", keep, e)
		}
	}
	if count >= len(before)-3 {
		t.Errorf("there are %d objects still, of %d", count, len(before))
	}
}

// P26.2: now and keep at the edges of what they may be.
func TestGcTimes(t *testing.T) {
	files, _ := rich()
	files = referringAt(referringAt(files, api.Ref{Name: "refs/tags/t", Id: idOf(blob("1\n"))}, most), api.Ref{Name: "refs/tags/u", Id: idOf(blob("1\n"))}, 0)
	all, _ := refs.AllNotes(files)
	for _, x := range []struct {
		now, keep int
		e         api.Errno
		notes     int
	}{
		{0, 0, 0, len(all)}, {0, most, 0, len(all)}, {most, most, 0, len(all)}, {1, 1, 0, len(all)}, {1, 0, 0, len(all) - 1}, {most, 0, 0, 1}, {most, most - 1, 0, len(all) - 1},
		{-1, 0, 1, 0}, {0, -1, 1, 0}, {most + 1, 0, 1, 0}, {0, most + 1, 1, 0}, {most + 1, most + 1, 1, 0}, {-1, -1, 1, 0}, {1 << 62, 1 << 62, 1, 0}, {-1 << 63, 1 << 40, 1, 0}, {1 << 40, -1 << 63, 1, 0},
	} {
		got, e := wantGc(t, "times", files, x.now, x.keep)
		notes, _ := refs.AllNotes(got)
		if e != x.e || len(notes) != x.notes || (len(got) == 0) != (e != api.OK) {
			t.Errorf("Gc(%d, %d): %d notes, error %d, wanted %d, error %d", x.now, x.keep, len(notes), e, x.notes, x.e)
		}
	}
}

// P26.2: of a repository without objects, and of one without notes.
func TestGcEmpty(t *testing.T) {
	for _, files := range [][]api.File{begun(), stored(begun(), blob("nobody's")), having(begun(), "objects/x", []byte("y")), having(begun(), "objects/pack/x.idx", nil)} {
		got, e := wantGc(t, "empty", files, 5, 5)
		if e != api.OK || !sameFiles(got, begun()) {
			t.Errorf("%d files, error %d", len(got), e)
		}
	}
	files := indexed(stored(begun(), blob("x")), file("a", "x", 0))
	got, e := wantGc(t, "a slot alone", files, 5, 5)
	if ids, _ := odb.Ids(got); e != api.OK || !slices.Equal(ids, []api.Id{idOf(blob("x"))}) {
		t.Errorf("a slot alone: %x, error %d", ids, e)
	}
}

// P26.2: Gc's errors, in their order; what isn't reached has none.
func TestGcErrors(t *testing.T) {
	files, _ := rich()
	head, _ := refs.Get(files, mainName)
	broken := without(files, place(head.Id))
	for _, x := range []struct {
		what  string
		files []api.File
		now   int
		e     api.Errno
	}{
		{"an argument ahead of what isn't there", broken, -1, api.ErrArg}, {"not there", broken, 1, api.ErrNone}, {"no form ahead of an argument", without(files, "index"), -1, api.ErrForm},
		{"a root that isn't there", having(files, "seq", seqText("pick", api.Id{9}, head.Id)), 1, api.ErrNone}, {"a note that isn't there", referringAt(referringAt(files, api.Ref{Name: "refs/tags/t", Id: api.Id{9}}, 50), api.Ref{Name: "refs/tags/t"}, 50), 1, api.ErrNone},
		{"a tag that is no commit", referring(stored(files, tag(api.Commit, idOf(blob("nobody's")))), api.Ref{Name: "refs/tags/t", Id: idOf(tag(api.Commit, idOf(blob("nobody's"))))}), 1, api.ErrType},
		{"not in form", referring(stored(files, api.Object{Kind: api.Tree, Data: []byte("x")}), api.Ref{Name: "refs/tags/t", Id: idOf(api.Object{Kind: api.Tree, Data: []byte("x")})}), 1, api.ErrForm},
		{"one that nobody needs", turned(files, place(idOf(blob("nobody's"))), -1), 1, api.OK},
	} {
		if got, e := wantGc(t, x.what, x.files, x.now, 0); e != x.e || (len(got) == 0) != (e != api.OK) {
			t.Errorf("%s: %d files, error %d, wanted error %d", x.what, len(got), e, x.e)
		}
	}
	// A note that is dropped needs nothing any more.
	dropped := referringAt(referringAt(files, api.Ref{Name: "refs/tags/t", Id: api.Id{9}}, 50), api.Ref{Name: "refs/tags/t"}, 50)
	if _, e := wantGc(t, "dropped", dropped, 51, 0); e != api.OK {
		t.Errorf("dropped: error %d", e)
	}
	if _, e := wantGc(t, "kept", dropped, 51, 1); e != api.ErrNone {
		t.Errorf("kept: error %d", e)
	}
}

// P26.2: tables with more notes than one table can have: Drop's error, but where enough are old.
func TestGcManyNotes(t *testing.T) {
	files := manyNotes(t)
	if _, e := wantGc(t, "many", files, 100, 100); e != api.ErrLong {
		t.Errorf("many: error %d", e)
	}
	if _, e := wantGc(t, "many", files, 100, 98); e != api.OK {
		t.Errorf("many, of which some are old: error %d", e)
	}
}

// P26.2: more objects than a pack can have.
func TestGcManyObjects(t *testing.T) {
	var entries []api.Entry
	var objects []api.Object
	for i := range api.MaxEntries {
		o := blob(fmt.Sprint("b", i))
		objects = append(objects, o)
		entries = append(entries, api.Entry{Mode: api.ModeFile, Name: fmt.Sprintf("f%04d", i), Id: idOf(o)})
	}
	most, over := tree(entries[1:]...), tree(entries...)
	files := stored(begun(), append(objects, most, over)...)
	for root, wanted := range map[api.Id]api.Errno{idOf(most): api.OK, idOf(over): api.ErrLong} {
		got, e := maint.Gc(referring(files, api.Ref{Name: "refs/tags/t", Id: root}), 5, 5)
		if e != wanted || (len(got) == 0) != (e != api.OK) {
			t.Errorf("%d files, error %d, wanted error %d", len(got), e, wanted)
		}
	}
}

// P26.3: behind Gc what was under way goes on, what was put away comes back, and each commit of the branches is there.
func TestGcGoesOn(t *testing.T) {
	files, other := rich()
	got, _ := wantGc(t, "under way", files, 100, 0)
	if word, todo, e := seq.Todo(got); word != "merge" || !slices.Equal(todo, []api.Id{other}) || e != api.OK {
		t.Errorf("Todo is %q, %x, error %d", word, todo, e)
	}
	got, e := seq.Abort(got, me(101))
	if e != api.OK || !wantFsck(t, "abort", got) {
		t.Fatalf("Abort: error %d", e)
	}
	for range 2 {
		var done bool
		if got, done, e = seq.Pop(got, me(102)); !done || e != api.OK {
			t.Fatalf("Pop: %v, error %d", done, e)
		}
		_, tip, _ := repo.Head(got)
		if got, e = repo.Reset(got, 2, tip, me(103)); e != api.OK {
			t.Fatalf("Reset: error %d", e)
		}
		got, _ = wantGc(t, "once more", got, 200, 0)
		wantFsck(t, "once more", got)
	}
}
