package rename_test

import (
	"bytes"
	"slices"
	"strings"
	"testing"
	"unsafe"

	"codicil/api"
	"codicil/rename"
)

// crowded answers slots whose list has spare room, and whose paths are memory of their own.
func crowded(l []api.Slot) []api.Slot {
	list := make([]api.Slot, 0, len(l)+3)
	for _, s := range l {
		s.Path = strings.Clone(s.Path)
		list = append(list, s)
	}
	spare := list[len(list):cap(list)]
	for i := range spare {
		spare[i] = slot("spare", "")
	}
	return list
}

// wantCrowded fails if slots made by crowded were changed, or their spare room.
func wantCrowded(t *testing.T, what string, l, was []api.Slot) {
	t.Helper()
	changed := func(s api.Slot) bool { return s != slot("spare", "") }
	if !slices.Equal(l, was) || slices.ContainsFunc(l[len(l):cap(l)], changed) {
		t.Errorf("%s changes its argument", what)
	}
}

// sharing answers whether two texts share memory. Go keeps each text of one byte once, so those tell nothing.
func sharing(a, b string) bool {
	if len(a) < 2 || len(b) < 2 {
		return false
	}
	x, y := uintptr(unsafe.Pointer(unsafe.StringData(a))), uintptr(unsafe.Pointer(unsafe.StringData(b)))
	return x < y+uintptr(len(b)) && y < x+uintptr(len(a))
}

// wantApart fails if texts share memory with each other or with others.
func wantApart(t *testing.T, what string, list, others []string) {
	t.Helper()
	for i, a := range list {
		for _, b := range slices.Concat(list[i+1:], others) {
			if sharing(a, b) {
				t.Fatalf("%s: %q and %q share memory", what, a, b)
			}
		}
	}
}

// pathsOf answers the paths of slots.
func pathsOf(l []api.Slot) []string {
	var list []string
	for _, s := range l {
		list = append(list, s.Path)
	}
	return list
}

// textsOf answers all texts of changes.
func textsOf(l []rename.Change) []string {
	var list []string
	for _, c := range l {
		list = append(list, c.Path, c.Old.Path, c.New.Path)
	}
	return list
}

// lists answers two lists of slots, with paths that stay, changed, went, came and moved.
func lists() ([]api.Slot, []api.Slot) {
	return slots("changed", "1", "from/near", "1\n2\n3\n", "from/same", "4", "stays", "5", "went", "6"),
		slots("came", "7", "changed", "8", "stays", "5", "to/near", "1\n2\n", "to/same", "4")
}

// 'Memory': Changes changes nothing, keeps nothing, and answers new memory, though both lists share theirs.
func TestChangesMemory(t *testing.T) {
	wasA, wasB := lists()
	a, b := crowded(wasA), crowded(wasB)
	b[1].Path = a[0].Path
	first, _ := rename.Changes(a, b)
	second, _ := rename.Changes(a, b)
	wantCrowded(t, "Changes", a, wasA)
	wantCrowded(t, "Changes", b, wasB)
	wantApart(t, "Changes", textsOf(first), slices.Concat(textsOf(second), pathsOf(a), pathsOf(b)))
	clear(second[:cap(second)])
	clear(a)
	clear(b)
	wantChanges(t, "again", wasA, wasB, first...)
	if len(first) != 7 {
		t.Errorf("%d changes", len(first))
	}
	a[0] = slot("z", "")
	rename.Changes(a, b)
	if a[0] != slot("z", "") {
		t.Error("Changes with an error changes its argument")
	}
}

// 'Memory': Like changes nothing.
func TestLikeMemory(t *testing.T) {
	a := append([]byte("one\ntwo\nthree"), "spare"...)[:13]
	b := append([]byte("zero\none\nthree"), "spare"...)[:14]
	like := rename.Like(a, b)
	if string(a[:18]) != "one\ntwo\nthreespare" || string(b[:19]) != "zero\none\nthreespare" {
		t.Error("Like changes its argument")
	}
	if again := rename.Like(a, b); again != like || like == 0 {
		t.Errorf("Like answers %d, then %d", like, again)
	}
}

// 'Memory': Pairs changes nothing, keeps nothing, and answers new memory.
func TestPairsMemory(t *testing.T) {
	wasA, wasB := lists()
	list := blobs("1", "1\n2\n3\n", "4", "5", "6", "7", "8", "1\n2\n")
	wanted := []rename.Pair{pair("from/near", "to/near", 80), pair("from/same", "to/same", 100)}
	for _, was := range [][]api.File{own(list...), packed(t, list...)} {
		a, b := crowded(wasA), crowded(wasB)
		files := make([]api.File, 0, len(was)+1)
		for _, f := range was {
			p := append(bytes.Clone(f.Data), bytes.Repeat([]byte{0xa5}, 200)...)
			files = append(files, api.File{Path: strings.Clone(f.Path), Data: p[:len(f.Data):len(p)]})
		}
		files[:len(files)+1][len(files)].Path = "spare"
		first, _ := rename.Pairs(files, a, b, 50)
		second, _ := rename.Pairs(files, a, b, 50)
		rename.Pairs(files, a, b, 0)
		rename.Pairs(files, b, a, 50)
		wantFilesAsTheyWere(t, files, was)
		wantCrowded(t, "Pairs", a, wasA)
		wantCrowded(t, "Pairs", b, wasB)
		var texts []string
		for _, p := range slices.Concat(first, second) {
			texts = append(texts, p.From, p.To)
		}
		wantApart(t, "Pairs", texts, slices.Concat(pathsOf(a), pathsOf(b)))
		clear(second[:cap(second)])
		clear(a)
		clear(b)
		for _, f := range files {
			scratch(f.Data)
		}
		if !slices.Equal(first, wanted) {
			t.Errorf("Pairs answers %v", first)
		}
	}
}

// wantFilesAsTheyWere fails if files with spare room were changed, or the spare room of their list or their bytes.
func wantFilesAsTheyWere(t *testing.T, files, was []api.File) {
	t.Helper()
	for i, f := range files {
		if f.Path != was[i].Path || !bytes.Equal(f.Data, was[i].Data) || len(bytes.Trim(f.Data[len(f.Data):cap(f.Data)], "\xa5")) != 0 {
			t.Error("Pairs changes a file")
		}
	}
	if files[:len(files)+1][len(files)].Path != "spare" {
		t.Error("Pairs changes the list's spare room")
	}
}

// P2: what is asked again has the same answer, whatever was asked between; nil and empty lists are the same.
func TestAnsweredAgain(t *testing.T) {
	a, b := lists()
	files := own(blobs("1", "1\n2\n3\n", "4", "5", "6", "7", "8", "1\n2\n")...)
	first, _ := rename.Pairs(files, a, b, 1)
	for range 20 {
		rename.Pairs(files, b, a, 100)
		rename.Pairs(nil, a, b, 1)
		rename.Changes(b, a)
		wantPairs(t, "again", files, a, b, 1, first...)
	}
	wantPairs(t, "empty lists", []api.File{}, []api.Slot{}, []api.Slot{}, 1)
	wantPairs(t, "nil lists", nil, nil, nil, 1)
}
