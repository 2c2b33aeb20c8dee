package maint_test

import (
	"bytes"
	"slices"
	"strings"
	"testing"

	"codicil/api"
	"codicil/maint"
	"codicil/reftable"
)

// P26.1: the roots, of each place where ids stand, each once, rising, none of all 0.
func TestRoots(t *testing.T) {
	files := begun()
	if got, e := wantRoots(t, "Init", files); len(got) != 0 || e != api.OK {
		t.Errorf("Init: %x, error %d", got, e)
	}
	refer := func(name string, n byte) { files = referring(files, api.Ref{Name: name, Id: api.Id{n}}) }
	want := func(what string, wanted ...byte) {
		t.Helper()
		got, e := wantRoots(t, what, files)
		var first []byte
		for _, id := range got {
			first = append(first, id[0])
		}
		if e != api.OK || !bytes.Equal(first, wanted) {
			t.Errorf("%s: %d, error %d, wanted %d", what, first, e, wanted)
		}
	}
	refer("refs/heads/main", 9)
	want("a reference", 9)
	refer("refs/tags/t", 3)
	refer("refs/tags/t", 4)
	want("a note's old one", 3, 4, 9)
	refer("refs/stash/top", 7)
	files = referring(files, api.Ref{Name: "refs/stash/top"})
	want("a reference that is gone", 3, 4, 7, 9)
	slot := func(path string, stage int, n byte) api.Slot {
		return api.Slot{Path: path, Stage: stage, Mode: api.ModeFile, Id: api.Id{n}}
	}
	files = indexed(files, slot("a", 0, 20), slot("b", 1, 21), slot("b", 2, 9), slot("b", 3, 22), slot("c", 0, 0))
	want("slots of all stages", 3, 4, 7, 9, 20, 21, 22)
	files = having(files, "seq", seqText("rebase", api.Id{1}, api.Id{30}, api.Id{4}, api.Id{}))
	want("seq", 1, 3, 4, 7, 9, 20, 21, 22, 30)
	files = having(files, "seq", seqText("merge", api.Id{}, api.Id{31}))
	want("another seq", 3, 4, 7, 9, 20, 21, 22, 31)
	files = having(files, "work/x", bytes.Repeat([]byte{5}, 32))
	files = stored(files, blob("nobody's"))
	want("nothing else", 3, 4, 7, 9, 20, 21, 22, 31)
}

// P26.1: both ids of each note, also where no other note and no reference has them.
func TestRootsOfNotes(t *testing.T) {
	notes := []api.Note{{Name: "refs/heads/x", Index: 2, Old: api.Id{4}, New: api.Id{3}, Who: me(1)}, {Name: "refs/heads/x", Index: 1, Old: api.Id{2}, New: api.Id{1}, Who: me(1)}, {Name: "refs/heads/y", Index: 1, New: api.Id{5}, Who: me(1)}}
	p, e := reftable.Write([]api.Ref{{Name: "HEAD", Target: mainName}}, notes, 1, 2)
	if e != api.OK {
		t.Fatalf("reftable.Write: error %d", e)
	}
	name := "000000000001-000000000002.ref"
	files := indexed(having(having(nil, "reftable/"+name, p), "reftable/tables.list", []byte(name+"\n")))
	if got, e := wantRoots(t, "notes", files); e != api.OK || !slices.Equal(got, []api.Id{{1}, {2}, {3}, {4}, {5}}) {
		t.Errorf("%x, error %d", got, e)
	}
}

// P26.1: of files that are no repository, or whose seq isn't in form, Roots and Gc have ErrForm; Reach has it of files that
// are not in order alone.
func TestNoRepository(t *testing.T) {
	files, _ := rich()
	swapped := slices.Clone(files)
	swapped[0], swapped[1] = swapped[1], swapped[0]
	for what, wrong := range map[string][]api.File{
		"nothing": nil, "no index": without(files, "index"), "another index": having(files, "index", nil), "an index that is turned": turned(files, "index", -1),
		"no list of tables": without(files, "reftable/tables.list"), "another list": turned(files, "reftable/tables.list", 5),
		"no HEAD": referring(files, api.Ref{Name: "HEAD"}), "HEAD with an Id": referring(files, api.Ref{Name: "HEAD", Id: api.Id{1}}),
		"seq without bytes": having(files, "seq", nil), "another word": turned(files, "seq", 0), "no line feed": turned(files, "seq", -1), "none to do": having(files, "seq", seqText("pick", api.Id{1})),
		"too many to do": having(files, "seq", seqText("pick", make([]api.Id, 258)...)), "a merge with two": having(files, "seq", seqText("merge", make([]api.Id, 3)...)),
		"swapped": swapped, "a file twice": append(slices.Clone(files), files[len(files)-1]), "no path": append(slices.Clone(files), api.File{Path: "z/"}),
	} {
		if got, e := maint.Roots(wrong); len(got) != 0 || e != api.ErrForm {
			t.Errorf("%s: Roots is %d ids, error %d", what, len(got), e)
		}
		for _, n := range [][2]int{{1, 1}, {-1, 1 << 41}} {
			if got, e := maint.Gc(wrong, n[0], n[1]); len(got) != 0 || e != api.ErrForm {
				t.Errorf("%s: Gc is %d files, error %d", what, len(got), e)
			}
		}
		if wantFsck(t, what, wrong) {
			t.Errorf("%s: all is well", what)
		}
		wantRoots(t, what, wrong)
		wantReach(t, what, wrong)
		wantReach(t, what, wrong, api.Id{1})
		disorder := what == "swapped" || what == "a file twice" || what == "no path"
		if _, e := maint.Reach(wrong, nil); (e == api.ErrForm) != disorder {
			t.Errorf("%s: Reach of nothing: error %d", what, e)
		}
	}
}

// P26.1: through commits, trees and tags; each object once, rising; nothing of nothing.
func TestReach(t *testing.T) {
	a, b, c := blob("a"), blob("b"), blob("c")
	inner := tree(api.Entry{Mode: api.ModeExec, Name: "b", Id: idOf(b)}, api.Entry{Mode: api.ModeLink, Name: "c", Id: idOf(c)})
	outer := tree(api.Entry{Mode: api.ModeFile, Name: "a", Id: idOf(a)}, api.Entry{Mode: api.ModeTree, Name: "d", Id: idOf(inner)}, api.Entry{Mode: api.ModeTree, Name: "e", Id: idOf(inner)})
	one := commit(idOf(inner))
	two := commit(idOf(outer), idOf(one))
	three := commit(idOf(inner), idOf(one), idOf(two))
	label := tag(api.Commit, idOf(two))
	twice := tag(api.Tag, idOf(label))
	all := []api.Object{a, b, c, inner, outer, one, two, three, label, twice, blob("nobody's")}
	files := stored(nil, all...)
	of := func(list ...api.Object) []api.Id {
		var ids []api.Id
		for _, o := range list {
			ids = append(ids, idOf(o))
		}
		return rising(ids...)
	}
	for _, files := range [][]api.File{files, first(packedUp(files))} {
		for _, x := range []struct {
			from, reached []api.Object
		}{
			{nil, nil}, {[]api.Object{a}, []api.Object{a}}, {[]api.Object{inner}, []api.Object{inner, b, c}}, {[]api.Object{outer}, []api.Object{outer, inner, a, b, c}},
			{[]api.Object{one}, []api.Object{one, inner, b, c}}, {[]api.Object{two}, []api.Object{two, one, outer, inner, a, b, c}}, {[]api.Object{three}, []api.Object{three, two, one, outer, inner, a, b, c}},
			{[]api.Object{label}, []api.Object{label, two, one, outer, inner, a, b, c}}, {[]api.Object{twice}, []api.Object{twice, label, two, one, outer, inner, a, b, c}},
			{[]api.Object{a, a, c, inner, a}, []api.Object{a, b, c, inner}}, {[]api.Object{one, label, twice, three, a}, all[:10]},
		} {
			var from []api.Id
			for _, o := range x.from {
				from = append(from, idOf(o))
			}
			if got, e := wantReach(t, "reach", files, from...); e != api.OK || !slices.Equal(got, of(x.reached...)) {
				t.Errorf("%d ids, error %d, wanted %d", len(got), e, len(x.reached))
			}
		}
	}
	if got, e := wantReach(t, "without files", nil); len(got) != 0 || e != api.OK {
		t.Errorf("%d ids, error %d", len(got), e)
	}
}

// first answers the first of three.
func first(files []api.File, _, _ string) []api.File { return files }

// P26.1: what isn't there, has another kind, or isn't in form; the first that is met, breadth first.
func TestReachErrors(t *testing.T) {
	gone := api.Id{1}
	noTree := api.Object{Kind: api.Tree, Data: []byte("x")}
	noCommit := api.Object{Kind: api.Commit, Data: []byte("tree\n")}
	a := blob("a")
	entry := func(mode int, name string, id api.Id) api.Entry { return api.Entry{Mode: mode, Name: name, Id: id} }
	lacks := tree(entry(api.ModeFile, "a", gone))
	asTree := tree(entry(api.ModeTree, "a", idOf(a)))
	asBlob := tree(entry(api.ModeFile, "a", idOf(lacks)))
	wrong := tree(entry(api.ModeTree, "a", idOf(noTree)))
	mixed := tree(entry(api.ModeTree, "a", idOf(asTree)), entry(api.ModeFile, "b", gone))
	twoWays := tree(entry(api.ModeFile, "a", idOf(a)), entry(api.ModeTree, "b", idOf(a)))
	twoWaysBack := tree(entry(api.ModeTree, "a", idOf(a)), entry(api.ModeFile, "b", idOf(a)))
	all := []api.Object{a, noTree, noCommit, lacks, asTree, asBlob, wrong, mixed, twoWays, twoWaysBack, commit(idOf(a)), commit(idOf(lacks), idOf(a)), tag(api.Tree, idOf(a)), tag(api.Blob, idOf(noTree))}
	files := stored(nil, all...)
	bad := turned(files, place(idOf(a)), -1)
	for _, x := range []struct {
		what  string
		files []api.File
		from  []api.Id
		e     api.Errno
	}{
		{"not there", files, []api.Id{gone}, api.ErrNone}, {"all 0", files, []api.Id{{}}, api.ErrNone}, {"behind others", files, []api.Id{idOf(a), gone, idOf(noTree)}, api.ErrNone},
		{"no tree", files, []api.Id{idOf(noTree)}, api.ErrForm}, {"no commit", files, []api.Id{idOf(noCommit)}, api.ErrForm}, {"lacks", files, []api.Id{idOf(lacks)}, api.ErrNone},
		{"a blob as a tree", files, []api.Id{idOf(asTree)}, api.ErrType}, {"a tree as a blob", files, []api.Id{idOf(asBlob)}, api.ErrType}, {"a tree out of form", files, []api.Id{idOf(wrong)}, api.ErrForm},
		{"breadth first", files, []api.Id{idOf(mixed)}, api.ErrNone}, {"breadth first, two", files, []api.Id{idOf(asTree), idOf(mixed)}, api.ErrType},
		// What came to an object first is what counts.
		{"two ways", files, []api.Id{idOf(twoWays)}, api.OK}, {"two ways back", files, []api.Id{idOf(twoWaysBack)}, api.ErrType}, {"by its id first", files, []api.Id{idOf(a), idOf(twoWaysBack)}, api.OK}, {"by its id behind", files, []api.Id{idOf(twoWaysBack), idOf(a)}, api.OK},
		{"a commit of a blob", files, []api.Id{idOf(all[10])}, api.ErrType}, {"a blob as a parent", files, []api.Id{idOf(all[11])}, api.ErrType}, {"a tag", files, []api.Id{idOf(all[12])}, api.ErrType}, {"a tag's kind", files, []api.Id{idOf(all[13])}, api.ErrType},
		{"a file that is turned", bad, []api.Id{idOf(a)}, 0},
	} {
		got, e := wantReach(t, x.what, x.files, x.from...)
		if e != x.e && x.what != "a file that is turned" || e == api.OK && len(got) == 0 || e != api.OK && len(got) != 0 {
			t.Errorf("%s: %d ids, error %d, wanted error %d", x.what, len(got), e, x.e)
		}
	}
	if _, e := maint.Reach(bad, []api.Id{idOf(a)}); e == api.OK {
		t.Error("a file that is turned has no error")
	}
}

// P26.1: MaxObjects, and one more: that is asked when the object has been read, and its links.
func TestReachMany(t *testing.T) {
	var objects []api.Object
	var from []api.Id
	for i := range api.MaxObjects {
		o := blob(strings.Repeat("x", i))
		objects = append(objects, o)
		from = append(from, idOf(o))
	}
	more := blob("one more")
	noTree := api.Object{Kind: api.Tree, Data: []byte("x")}
	files := stored(nil, append(objects, more, noTree)...)
	if got, e := maint.Reach(files, slices.Concat(from, from)); len(got) != api.MaxObjects || e != api.OK {
		t.Errorf("%d ids, error %d", len(got), e)
	}
	for _, x := range []struct {
		id api.Id
		e  api.Errno
	}{{idOf(more), api.ErrLong}, {api.Id{1}, api.ErrNone}, {idOf(noTree), api.ErrForm}} {
		if got, e := maint.Reach(files, append(slices.Clone(from), x.id)); len(got) != 0 || e != x.e {
			t.Errorf("%d ids, error %d, wanted error %d", len(got), e, x.e)
		}
	}
}
