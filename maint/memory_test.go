package maint_test

import (
	"bytes"
	"slices"
	"strings"
	"testing"
	"unsafe"

	"codicil/api"
	"codicil/maint"
)

// crowded answers files with spare room in their list and in their bytes, whose paths are memory of their own.
func crowded(was []api.File) []api.File {
	files := make([]api.File, 0, len(was)+1)
	for _, f := range was {
		p := append(bytes.Clone(f.Data), bytes.Repeat([]byte{0xa5}, 200)...)
		files = append(files, api.File{Path: strings.Clone(f.Path), Data: p[:len(f.Data):len(p)]})
	}
	files[:len(files)+1][len(files)].Path = "spare"
	return files
}

// wantCrowded fails if files made by crowded were changed, or their spare room.
func wantCrowded(t *testing.T, what string, files, was []api.File) {
	t.Helper()
	if !sameFiles(files, was) || files[:len(files)+1][len(files)].Path != "spare" {
		t.Fatalf("%s changes the files", what)
	}
	for _, f := range files {
		if len(bytes.Trim(f.Data[len(f.Data):cap(f.Data)], "\xa5")) != 0 {
			t.Fatalf("%s changes spare room", what)
		}
	}
}

// piece is memory from one address to another.
type piece struct{ from, to uintptr }

// textPiece answers the memory of a text, pieces that of files.
func textPiece(s string) piece {
	if len(s) < 2 {
		return piece{}
	}
	from := uintptr(unsafe.Pointer(unsafe.StringData(s)))
	return piece{from, from + uintptr(len(s))}
}

func pieces(l []api.File) []piece {
	var list []piece
	for _, f := range l {
		from := uintptr(unsafe.Pointer(unsafe.SliceData(f.Data)))
		list = append(list, textPiece(f.Path), piece{from, from + uintptr(cap(f.Data))})
	}
	return list
}

// wantApart fails if pieces of memory share some with each other or with others.
func wantApart(t *testing.T, what string, list, others []piece) {
	t.Helper()
	for i, a := range list {
		for _, b := range slices.Concat(list[i+1:], others) {
			if a.from < b.to && b.from < a.to {
				t.Fatalf("%s: an answer shares memory", what)
			}
		}
	}
}

// 'Memory': Gc changes nothing of what it is handed, keeps nothing, and answers new memory; also where it changes nothing.
func TestGcMemory(t *testing.T) {
	files, _ := rich()
	behind, _ := maint.Gc(files, 100, 100)
	for _, was := range [][]api.File{files, behind, begun()} {
		in := crowded(was)
		one, e := maint.Gc(in, 100, 90)
		two, _ := maint.Gc(in, 100, 90)
		if e != api.OK {
			t.Fatalf("error %d", e)
		}
		wanted, _ := plainGc(was, 100, 90)
		wantCrowded(t, "Gc", in, was)
		wantApart(t, "Gc", slices.Concat(pieces(one), pieces(two)), pieces(in))
		for _, f := range slices.Concat(two, in) {
			p := f.Data[:cap(f.Data)]
			copy(p, bytes.Repeat([]byte{0x5a}, len(p)))
		}
		if !sameFiles(one, wanted) {
			t.Error("the answer changes with others")
		}
	}
}

// 'Memory': Roots, Reach and Fsck; the ids that Reach is handed stay as they are, and are not kept.
func TestReadMemory(t *testing.T) {
	was, other := rich()
	was = without(was, place(other))
	in := crowded(was)
	roots, _ := maint.Roots(in)
	again, _ := maint.Roots(in)
	problems := maint.Fsck(in)
	problemsAgain := maint.Fsck(in)
	wantCrowded(t, "Roots or Fsck", in, was)
	var list []piece
	for _, p := range append(problems, problemsAgain...) {
		list = append(list, textPiece(p.Path))
	}
	wantApart(t, "Fsck", list, pieces(in))
	clear(again[:cap(again)])
	if wanted, _ := plainRoots(was); len(roots) == 0 || !slices.Equal(roots, wanted) {
		t.Errorf("Roots is %d ids", len(roots))
	}
	whole, _ := rich()
	in = crowded(whole)
	from := append(make([]api.Id, 0, len(roots)+1), roots...)
	slices.Reverse(from)
	from[:cap(from)][len(from)] = api.Id{5}
	before := slices.Clone(from)
	reached, e := maint.Reach(in, from)
	more, _ := maint.Reach(in, from)
	if e != api.OK || !slices.Equal(from, before) || from[:cap(from)][len(from)] != (api.Id{5}) {
		t.Fatalf("error %d, or Reach changes its ids", e)
	}
	wantCrowded(t, "Reach", in, whole)
	clear(more[:cap(more)])
	clear(from)
	if wanted, _ := plainReach(whole, before); !slices.Equal(reached, wanted) {
		t.Error("Reach's answer changes with others")
	}
}
