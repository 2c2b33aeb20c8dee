package treemerge_test

import (
	"bytes"
	"slices"
	"strings"
	"testing"
	"unsafe"

	"codicil/api"
	"codicil/treemerge"
)

// trees answers base, ours and theirs with paths of all cases: settled, merged, clashing with texts and without, moved. No
// path has one byte, as Go keeps each text of one byte once.
func trees() (told, told, told) {
	return told{"apart/one " + text, "apart/two " + text, "clash 1\n", "from/one " + text + other, "gone 2\n", "link@ 3", "same 4\n"},
		told{"apart/one " + near, "apart/two " + near, "clash 5\n", "link@ 6", "same 4\n", "to/one " + near + other},
		told{"apart/one " + far, "apart/two " + far, "clash 7\n", "from/one " + far + other, "gone 8\n", "link@ 9", "new 0\n", "same 4\n"}
}

// merged answers what comes of trees.
func merged() treemerge.Result {
	return result(told{
		"apart/one " + made, "apart/two " + made, "1:clash 1\n", "2:clash 5\n", "3:clash 7\n", "1:gone 2\n", "3:gone 8\n",
		"1:link@ 3", "2:link@ 6", "3:link@ 9", "new 0\n", "same 4\n", "to/one " + made + other,
	}, told{"clash " + clash("5\n", "1\n", "7\n"), "gone 8\n", "link 6"}, made, made, made+other)
}

// crowded answers slots whose list has spare room, and whose paths are memory of their own.
func crowded(l []api.Slot) []api.Slot {
	list := make([]api.Slot, 0, len(l)+3)
	for _, s := range l {
		s.Path = strings.Clone(s.Path)
		list = append(list, s)
	}
	spare := list[len(list):cap(list)]
	for i := range spare {
		spare[i].Path = "spare"
	}
	return list
}

// wantCrowded fails if slots made by crowded were changed, or their spare room.
func wantCrowded(t *testing.T, l, was []api.Slot) {
	t.Helper()
	changed := func(s api.Slot) bool { return s != api.Slot{Path: "spare"} }
	if !slices.Equal(l, was) || slices.ContainsFunc(l[len(l):cap(l)], changed) {
		t.Error("Merge changes its argument")
	}
}

// crowdedFiles answers files with spare room in their list and in their bytes, whose paths are memory of their own.
func crowdedFiles(was []api.File) []api.File {
	files := make([]api.File, 0, len(was)+1)
	for _, f := range was {
		p := append(bytes.Clone(f.Data), bytes.Repeat([]byte{0xa5}, 200)...)
		files = append(files, api.File{Path: strings.Clone(f.Path), Data: p[:len(f.Data):len(p)]})
	}
	files[:len(files)+1][len(files)].Path = "spare"
	return files
}

// wantFilesAsTheyWere fails if files made by crowdedFiles were changed, or their spare room.
func wantFilesAsTheyWere(t *testing.T, files, was []api.File) {
	t.Helper()
	for i, f := range files {
		if f.Path != was[i].Path || !bytes.Equal(f.Data, was[i].Data) || len(bytes.Trim(f.Data[len(f.Data):cap(f.Data)], "\xa5")) != 0 {
			t.Error("Merge changes a file")
		}
	}
	if files[:len(files)+1][len(files)].Path != "spare" {
		t.Error("Merge changes the list's spare room")
	}
}

// piece is memory from one address to another.
type piece struct{ from, to uintptr }

func bytesPiece(p []byte) piece {
	from := uintptr(unsafe.Pointer(unsafe.SliceData(p)))
	return piece{from, from + uintptr(cap(p))}
}

func textPiece(s string) piece {
	from := uintptr(unsafe.Pointer(unsafe.StringData(s)))
	return piece{from, from + uintptr(len(s))}
}

// slotPieces and filePieces answer the memory that slots and files point to.
func slotPieces(l []api.Slot) []piece {
	var list []piece
	for _, s := range l {
		list = append(list, textPiece(s.Path))
	}
	return list
}

func filePieces(l []api.File) []piece {
	var list []piece
	for _, f := range l {
		list = append(list, textPiece(f.Path), bytesPiece(f.Data))
	}
	return list
}

// resultPieces answers the memory that a result points to.
func resultPieces(r treemerge.Result) []piece {
	list := append(slotPieces(r.Slots), filePieces(r.Work)...)
	for _, o := range r.Objects {
		list = append(list, bytesPiece(o.Data))
	}
	return list
}

// wantApart fails if pieces of memory share some with each other or with others.
func wantApart(t *testing.T, list, others []piece) {
	t.Helper()
	for i, a := range list {
		for _, b := range slices.Concat(list[i+1:], others) {
			if a.from < b.to && b.from < a.to {
				t.Fatal("Merge's answer shares memory")
			}
		}
	}
}

// scratch writes over bytes and their spare room.
func scratch(p []byte) {
	p = p[:cap(p)]
	copy(p, bytes.Repeat([]byte{0x5a}, len(p)))
}

// scratchResult writes over all of a result that can be written.
func scratchResult(r treemerge.Result) {
	for _, f := range r.Work {
		scratch(f.Data)
	}
	for _, o := range r.Objects {
		scratch(o.Data)
	}
	clear(r.Slots[:cap(r.Slots)])
	clear(r.Work[:cap(r.Work)])
	clear(r.Objects[:cap(r.Objects)])
}

// 'Memory': Merge changes nothing, keeps nothing, and answers new memory.
func TestMemory(t *testing.T) {
	o, a, b := trees()
	want(t, "all cases", o, a, b, merged())
	list := blobsOf(o, a, b)
	for _, was := range [][]api.File{own(list...), packed(t, list...)} {
		files := crowdedFiles(was)
		base, ours, theirs := crowded(o.slots()), crowded(a.slots()), crowded(b.slots())
		first, _ := treemerge.Merge(files, base, ours, theirs, both())
		second, _ := treemerge.Merge(files, base, ours, theirs, both())
		treemerge.Merge(files, theirs, ours, base, both())
		treemerge.Merge(files, base, ours, theirs, [2]string{"\n", ""})
		treemerge.Merge(files[1:], base, ours, theirs, both())
		wantFilesAsTheyWere(t, files, was)
		wantCrowded(t, base, o.slots())
		wantCrowded(t, ours, a.slots())
		wantCrowded(t, theirs, b.slots())
		handed := slices.Concat(slotPieces(base), slotPieces(ours), slotPieces(theirs), filePieces(files))
		wantApart(t, slices.Concat(resultPieces(first), resultPieces(second)), handed)
		scratchResult(second)
		clear(base)
		clear(ours)
		clear(theirs)
		for _, f := range files {
			scratch(f.Data)
		}
		if !equal(first, merged()) {
			t.Errorf("Merge's answer changes with others: %s", brief(first))
		}
	}
}

// 'Memory': one list may be handed in three times, and pieces of one.
func TestOneList(t *testing.T) {
	o, _, _ := trees()
	files := own(blobsOf(o)...)
	l := crowded(o.slots())
	all, e := treemerge.Merge(files, l, l, l, both())
	wantCrowded(t, l, o.slots())
	if e != api.OK || !equal(all, result(o, nil)) {
		t.Errorf("one list: error %d, %s", e, brief(all))
	}
	wantApart(t, resultPieces(all), slotPieces(l))
	some, e := treemerge.Merge(files, l[:3], l[:5], l, both())
	wantCrowded(t, l, o.slots())
	if e != api.OK || !equal(some, result(o, nil)) {
		t.Errorf("pieces of one list: error %d, %s", e, brief(some))
	}
}

// P2: what is asked again has the same answer, whatever was asked between; nil and empty lists are the same.
func TestAnsweredAgain(t *testing.T) {
	o, a, b := trees()
	files := own(blobsOf(o, a, b)...)
	for range 30 {
		wantIs(t, "again", files, o.slots(), a.slots(), b.slots(), merged())
		treemerge.Merge(files, a.slots(), b.slots(), o.slots(), both())
		treemerge.Merge(nil, o.slots(), a.slots(), b.slots(), both())
	}
	none := [][]api.Slot{nil, {}}
	for _, base := range none {
		for _, ours := range none {
			for _, theirs := range none {
				wantIs(t, "no slots", nil, base, ours, theirs, treemerge.Result{})
				wantIs(t, "no slots", []api.File{}, base, ours, theirs, treemerge.Result{})
			}
			wantIs(t, "two empty lists", files, base, ours, told{"new 0\n"}.slots(), result(told{"new 0\n"}, nil))
		}
	}
}
