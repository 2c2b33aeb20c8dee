package trees_test

import (
	"bytes"
	"slices"
	"strings"
	"testing"
	"unsafe"

	"codicil/api"
	"codicil/index"
	"codicil/trees"
)

// twice answers slots with equal folders at two places.
func twice() []api.Slot {
	l := slots("aa/name", "bb/name", "cc/dd/name", "name")
	for i := range l {
		l[i].Id, l[i].Mode = api.Id{1}, api.ModeFile
	}
	return l
}

// 'Memory': Build changes nothing, keeps nothing, and answers new memory, each tree's for itself.
func TestBuildMemory(t *testing.T) {
	was := twice()
	l := append(make([]api.Slot, 0, len(was)+2), was...)
	l[:len(l)+1][len(l)] = slot("spare")
	first, _, _ := trees.Build(l)
	second, _, _ := trees.Build(l)
	if !slices.Equal(l, was) || l[:len(l)+1][len(l)] != slot("spare") {
		t.Error("Build changes its argument")
	}
	for i, o := range second {
		scratch(o.Data)
		for j := i + 1; j < len(second); j++ {
			if !bytes.Equal(second[j].Data, first[j].Data) {
				t.Error("two trees of one answer share memory")
			}
		}
	}
	clear(second[:cap(second)])
	clear(l)
	if !same(first, plainBuild(was)) {
		t.Error("Build's answer shares memory")
	}
}

// scratch writes over bytes and their spare room.
func scratch(p []byte) {
	p = p[:cap(p)]
	for i := range p {
		p[i] = 0x5a
	}
}

// sharing answers whether two texts share memory.
func sharing(a, b string) bool {
	x, y := uintptr(unsafe.Pointer(unsafe.StringData(a))), uintptr(unsafe.Pointer(unsafe.StringData(b)))
	return x < y+uintptr(len(b)) && y < x+uintptr(len(a))
}

// wantFilesAsTheyWere fails if files with spare room were changed, or the spare room of their list or their bytes.
func wantFilesAsTheyWere(t *testing.T, what string, files, was []api.File) {
	t.Helper()
	for i, f := range files {
		if f.Path != was[i].Path || !bytes.Equal(f.Data, was[i].Data) || len(bytes.Trim(f.Data[len(f.Data):cap(f.Data)], "\xa5")) != 0 {
			t.Errorf("%s changes a file", what)
		}
	}
	if files[:len(files)+1][len(files)].Path != "spare" {
		t.Errorf("%s changes the list's spare room", what)
	}
}

// 'Memory': Flatten changes nothing, keeps nothing, and answers new memory.
func TestFlattenMemory(t *testing.T) {
	list := plainBuild(twice())
	root := idOf(list[len(list)-1])
	for _, was := range [][]api.File{own(list...), packed(t, list...)} {
		files := make([]api.File, 0, len(was)+1)
		for _, f := range was {
			p := append(bytes.Clone(f.Data), bytes.Repeat([]byte{0xa5}, 200)...)
			files = append(files, api.File{Path: strings.Clone(f.Path), Data: p[:len(f.Data):len(p)]})
		}
		files[:len(files)+1][len(files)].Path = "spare"
		first, _ := trees.Flatten(files, root)
		second, _ := trees.Flatten(files, root)
		trees.Flatten(files, api.Id{1})
		wantFilesAsTheyWere(t, "Flatten", files, was)
		all := slices.Concat(first, second)
		for i, a := range all {
			for _, b := range all[i+1:] {
				if sharing(a.Path, b.Path) {
					t.Errorf("%q and %q share memory", a.Path, b.Path)
				}
			}
		}
		clear(second[:cap(second)])
		for _, f := range files {
			scratch(f.Data)
		}
		if !slices.Equal(first, bare(twice())) {
			t.Error("Flatten's answer shares memory")
		}
	}
}

// P2: what is asked again has the same answer, whatever was asked between; what Flatten answers is an index.
func TestAnsweredAgain(t *testing.T) {
	l := twice()
	list, root, _ := trees.Build(l)
	files := own(list...)
	first, _ := trees.Flatten(files, root)
	trees.Build(nil)
	trees.Build(slots("a", "a/b"))
	trees.Flatten(nil, root)
	trees.Flatten([]api.File{}, api.Id{})
	again, other, e := trees.Build(l)
	if e != api.OK || other != root || !same(again, list) {
		t.Error("Build answers another thing the second time")
	}
	wantFlat(t, "again", files, root, first...)
	if e := index.Check(first); e != api.OK {
		t.Errorf("Check of what Flatten answers: error %d", e)
	}
}
