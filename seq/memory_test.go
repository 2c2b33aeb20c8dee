package seq_test

import (
	"bytes"
	"slices"
	"strings"
	"testing"
	"unsafe"

	"codicil/api"
	"codicil/seq"
)

// crowded answers files with spare room in their list and in their bytes, whose paths are memory of their own.
func crowded(was []api.File) []api.File {
	files := make([]api.File, 0, len(was)+1)
	for _, f := range was {
		p := append(bytes.Clone(f.Data), bytes.Repeat([]byte{0xa5}, 200)...)
		files = append(files, api.File{Path: strings.Clone(f.Path), Data: p[:len(f.Data):len(p)]})
	}
	files[:len(files)+1][len(files)].Path = "spare"
	return files
}

// wantCrowded fails if files made by crowded were changed, or their spare room.
func wantCrowded(t *testing.T, what string, files, was []api.File) {
	t.Helper()
	if !sameFiles(files, was) || files[:len(files)+1][len(files)].Path != "spare" {
		t.Fatalf("%s changes the files", what)
	}
	for _, f := range files {
		if len(bytes.Trim(f.Data[len(f.Data):cap(f.Data)], "\xa5")) != 0 {
			t.Fatalf("%s changes spare room", what)
		}
	}
}

// piece is memory from one address to another.
type piece struct{ from, to uintptr }

// pieces answers the memory that files point to. Go keeps each text of one byte once: those tell nothing.
func pieces(l []api.File) []piece {
	var list []piece
	for _, f := range l {
		if len(f.Path) > 1 {
			from := uintptr(unsafe.Pointer(unsafe.StringData(f.Path)))
			list = append(list, piece{from, from + uintptr(len(f.Path))})
		}
		from := uintptr(unsafe.Pointer(unsafe.SliceData(f.Data)))
		list = append(list, piece{from, from + uintptr(cap(f.Data))})
	}
	return list
}

// wantApart fails if pieces of memory share some with each other or with others.
func wantApart(t *testing.T, what string, list, others []piece) {
	t.Helper()
	for i, a := range list {
		for _, b := range slices.Concat(list[i+1:], others) {
			if a.from < b.to && b.from < a.to {
				t.Fatalf("%s: an answer shares memory", what)
			}
		}
	}
}

// scratch writes over files' bytes, their spare room, and their list.
func scratch(files []api.File) {
	for _, f := range files {
		p := f.Data[:cap(f.Data)]
		copy(p, bytes.Repeat([]byte{0x5a}, len(p)))
	}
	clear(files[:cap(files)])
}

// 'Memory': commands change nothing of what they are handed, keep nothing, and answer new memory: also where nothing is done.
func TestMemory(t *testing.T) {
	files, from, ours, theirs := twoSides("a 1\n2\n3\n|kk same", "a 1\nours\n3\n|kk same", "a 1\n2\n3\n4\n|cc new|kk same")
	files, clashing := grown(files, "clashing", ids(from), "a 1\ntheirs\n3\n", "dd new")
	files, onto := grown(files, "onto", ids(ours), "a 1\nours\n3\n", "ee new", "kk same")
	stopped, _, _ := plainPick(files, ids(theirs, clashing, theirs), me(12))
	merged, _, _ := plainMerge(files, clashing, me(11))
	settled, _ := stored(stopped, blob("both"))
	settled = working(indexed(settled, slots("a both", "cc new", "dd new", "kk same")), "a both", "dd new")
	put, _ := plainStash(working(files, "kk changed"), me(17))
	for _, one := range []struct {
		was []api.File
		c   command
	}{
		{files, merge(theirs)}, {files, merge(clashing)}, {files, merge(onto)}, {files, pick(theirs)}, {files, pick(theirs, clashing)}, {files, pick(ours)},
		{files, rebase(theirs)}, {files, rebase(clashing)}, {files, rebase(onto)}, {stopped, skip()}, {stopped, abort()}, {merged, skip()}, {merged, abort()},
		{settled, goOn()}, {indexed(merged, slots("a both")), goOn()}, {working(files, "kk changed"), stash()}, {put, pop()}, {standing(put, theirs, "a 1\n2\n3\n4\n", "cc new", "kk other"), pop()},
	} {
		in := crowded(one.was)
		wanted, _, _ := one.c.plain(one.was)
		first, _, e := one.c.run(in)
		second, _, _ := one.c.run(in)
		if e != api.OK && e != api.ErrDirty {
			t.Fatalf("%s: error %d", one.c.what, e)
		}
		wantCrowded(t, one.c.what, in, one.was)
		wantApart(t, one.c.what, slices.Concat(pieces(first), pieces(second)), pieces(in))
		scratch(second)
		wantCrowded(t, "who writes over an answer of "+one.c.what, in, one.was)
		scratch(in)
		if !sameFiles(first, wanted) {
			t.Errorf("%s: the answer changes with others", one.c.what)
		}
	}
}

// 'Memory': Pick neither changes nor keeps the ids that it is handed, nor their spare room; Todo's are new ones.
func TestIdsMemory(t *testing.T) {
	files, _, ours, theirs := twoSides("a x", "a y", "a z")
	list := append(make([]api.Id, 0, 3), theirs, theirs)
	list[:3][2] = api.Id{7}
	made, _, e := seq.Pick(files, list, me(12))
	if e != api.OK || list[0] != theirs || list[1] != theirs || list[:3][2] != (api.Id{7}) {
		t.Fatalf("error %d, or Pick changes its ids", e)
	}
	clear(list[:3])
	_, todo, _ := seq.Todo(made)
	_, again, _ := seq.Todo(made)
	wantStopped(t, "kept", files, pick(theirs, theirs), "pick", ours, theirs, theirs)
	clear(again[:cap(again)])
	if !slices.Equal(todo, ids(theirs, theirs)) {
		t.Errorf("Todo is %x", todo)
	}
	scratch(made)
	if !slices.Equal(todo, ids(theirs, theirs)) {
		t.Error("Todo changes with the files")
	}
}

// P2: what is asked again has the same answer, whatever was asked between.
func TestAnsweredAgain(t *testing.T) {
	files, _, _, theirs := twoSides("a x|b y", "a y|b y", "a z|b y|c w")
	for range 5 {
		for _, c := range []command{merge(theirs), pick(theirs), rebase(theirs), stash(), pop(), abort(), pick()} {
			wantPlain(t, "again", files, c)
		}
	}
}
