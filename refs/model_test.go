package refs_test

import (
	"bytes"
	"fmt"
	"math/rand"
	"slices"
	"testing"

	"codicil/api"
	"codicil/refs"
)

// few are the names of which the runs by chance make references.
func few() []string {
	return []string{"HEAD", "refs/heads/a", "refs/heads/ab", "refs/heads/b", mainName, "refs/tags/v1", "refs/heads/a/b"}
}

// anyRef answers a reference by chance.
func anyRef(r *rand.Rand, name string) api.Ref {
	switch r.Intn(6) {
	case 0:
		return gone(name)
	case 1:
		return to(name, few()[r.Intn(len(few()))])
	}
	return at(name, byte(1+r.Intn(3)))
}

// anyEdits answers edits of unlike names by chance, some of which expect something else than is there.
func anyEdits(r *rand.Rand, s stack) []refs.Edit {
	var list []refs.Edit
	for _, i := range r.Perm(len(few()))[:1+r.Intn(4)] {
		e := refs.Edit{Ref: anyRef(r, few()[i]), Any: r.Intn(2) == 0}
		e.Expect = s.ref(e.Ref.Name).Id
		if r.Intn(12) == 0 {
			e.Expect[r.Intn(32)] ^= 1
		}
		list = append(list, e)
	}
	return list
}

// clashes answers by the chapter's words whether an edit expects something else than is there.
func (s stack) clashes(edits []refs.Edit) bool {
	return slices.ContainsFunc(edits, func(e refs.Edit) bool { return !e.Any && s.ref(e.Ref.Name).Id != e.Expect })
}

// wantPlainResolved fails unless Resolve answers of each name what going through Targets by hand does.
func wantPlainResolved(t *testing.T, files []api.File, s stack) {
	t.Helper()
	for _, name := range few() {
		last, count := s.ref(name), 0
		for ; last.Target != "" && count < 6; count++ {
			last = s.ref(last.Target)
		}
		switch {
		case count > 5:
			wantUnresolved(t, "by chance", files, name, api.ErrLimit)
		case last.Id == (api.Id{}):
			wantUnresolved(t, "by chance", files, name, api.ErrNone)
		default:
			wantResolved(t, "by chance", files, name, last.Name, last.Id)
		}
	}
}

// P16.1 to P16.4: runs of updates and drops by chance, against the chapter's words; all else is as it was.
func TestByChance(t *testing.T) {
	r := rand.New(rand.NewSource(16))
	ends := map[string]int{}
	for range 25 {
		var s stack
		files := []api.File{{Path: "a", Data: []byte("x")}, {Path: "reftable/other", Data: []byte("y")}, {Path: "work/z"}}
		for step := range 40 {
			edits := anyEdits(r, s)
			who, message := me(r.Intn(30)), fmt.Sprint("step ", step)
			switch {
			case r.Intn(12) == 0:
				s, files = wantDropped(t, "by chance", s, files, r.Intn(35)-2)
				ends["dropped"]++
			case s.clashes(edits):
				wantRefused(t, "by chance", files, edits, who, message, api.ErrClash)
				ends["clashed"]++
			default:
				before := s
				s, files = wantUpdated(t, "by chance", s, files, who, message, edits...)
				wantAllElse(t, before, s, edits)
				ends[fmt.Sprint(len(s), " tables")]++
			}
			wantPlainResolved(t, files, s)
			if !bytes.Equal(files[0].Data, []byte("x")) || len(files) != 3+len(s.files()) {
				t.Fatalf("%d files, %d of them those of the tables", len(files), len(s.files()))
			}
		}
	}
	for what, n := range map[string]int{"dropped": 40, "clashed": 40, "1 tables": 40, "5 tables": 20} {
		if ends[what] < n {
			t.Errorf("too little was tried: %v", ends)
		}
	}
}

// wantAllElse fails unless what the edits say is there, all other references are as they were, and all notes that there were are there still (P16.4).
func wantAllElse(t *testing.T, before, behind stack, edits []refs.Edit) {
	t.Helper()
	asked := map[string]api.Ref{}
	for _, name := range few() {
		asked[name] = before.ref(name)
	}
	for _, e := range edits {
		asked[e.Ref.Name] = e.Ref
	}
	for name, wanted := range asked {
		if got := behind.ref(name); got != wanted {
			t.Fatalf("%s is %v, wanted %v", name, got, wanted)
		}
	}
	for _, name := range few() {
		old, now := before.notesOf(name), behind.notesOf(name)
		if more := len(now) - len(old); more < 0 || more > 1 || !slices.Equal(now[more:], old) {
			t.Fatalf("the notes of %s were %v and are %v", name, old, now)
		}
	}
}

// P1: files by chance, many of them with a fault: each call ends, and answers ErrForm alone or what the tables say.
func TestFaultsByChance(t *testing.T) {
	r := rand.New(rand.NewSource(17))
	seen := map[bool]int{}
	for range 1500 {
		files := three().files()
		f := &files[r.Intn(len(files))]
		i := r.Intn(len(f.Data))
		switch r.Intn(3) {
		case 0:
			f.Data = f.Data[:i]
		case 1:
			f.Data = slices.Insert(bytes.Clone(f.Data), i, byte(r.Intn(256)))
		default:
			f.Data[i] ^= 1 << r.Intn(8)
		}
		list, e := refs.List(files)
		seen[e == api.OK]++
		if e != api.OK {
			wantNoStack(t, "a fault by chance", files)
			continue
		}
		// A reference's Id or name may be another one: then it is that one that is there.
		for _, x := range list {
			if got, e := refs.Get(files, x.Name); got != x || e != api.OK {
				t.Fatalf("Get(%s): %v, error %d, wanted %v", x.Name, got, e, x)
			}
		}
		changes, _ := refs.Drop(files, 0)
		if again, e := refs.List(made(t, files, changes)); e != api.OK || !slices.Equal(again, list) {
			t.Fatalf("List behind Drop: %v, error %d, wanted %v", again, e, list)
		}
	}
	if seen[true] < 20 || seen[false] < 200 {
		t.Errorf("files with tables, and others: %v", seen)
	}
}
