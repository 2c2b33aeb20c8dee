package base_test

import (
	"bytes"
	"slices"
	"strings"
	"testing"
	"unsafe"

	"codicil/api"
	"codicil/base"
	"codicil/object"
)

// crowded answers files in memory of their own, whose list and whose bytes have spare room.
func crowded(was []api.File) []api.File {
	files := make([]api.File, 0, len(was)+1)
	for _, f := range was {
		p := append(bytes.Clone(f.Data), bytes.Repeat([]byte{0xa5}, 200)...)
		files = append(files, api.File{Path: strings.Clone(f.Path), Data: p[:len(f.Data):len(p)]})
	}
	files[:len(files)+1][len(files)].Path = "spare"
	return files
}

// wantCrowded fails if files made by crowded were changed, or the spare room of their list or their bytes.
func wantCrowded(t *testing.T, what string, files, was []api.File) {
	t.Helper()
	for i, f := range files {
		if f.Path != was[i].Path || !bytes.Equal(f.Data, was[i].Data) || len(bytes.Trim(f.Data[len(f.Data):cap(f.Data)], "\xa5")) != 0 {
			t.Errorf("%s changes a file", what)
		}
	}
	if files[:len(files)+1][len(files)].Path != "spare" {
		t.Errorf("%s changes the list's spare room", what)
	}
}

// scratch writes over files' bytes, and their spare room.
func scratch(files []api.File) {
	for _, f := range files {
		p := f.Data[:cap(f.Data)]
		copy(p, bytes.Repeat([]byte{0x5a}, len(p)))
	}
	clear(files)
}

// sharing answers whether two texts share memory. Go keeps each text of one byte once, so those tell nothing.
func sharing(a, b string) bool {
	if len(a) < 2 || len(b) < 2 {
		return false
	}
	x, y := uintptr(unsafe.Pointer(unsafe.StringData(a))), uintptr(unsafe.Pointer(unsafe.StringData(b)))
	return x < y+uintptr(len(b)) && y < x+uintptr(len(a))
}

// textsOf answers all texts of a commit.
func textsOf(s api.Snapshot) []string {
	return []string{s.Author.Name, s.Author.Email, s.Committer.Name, s.Committer.Email, s.Message}
}

// 'Memory': Commit changes nothing, keeps nothing, and answers new memory, each text's for itself.
func TestCommitMemory(t *testing.T) {
	who := api.Ident{Name: "the name", Email: "the email", Time: 5}
	wanted := api.Snapshot{Parents: []api.Id{{1}, {2}, {3}}, Author: who, Committer: who, Message: "the message"}
	data, _ := object.PutCommit(wanted)
	o := api.Object{Kind: api.Commit, Data: data}
	for _, was := range bothWays(t, o, blob("beside it")) {
		files := crowded(was)
		first, _ := base.Commit(files, idOf(o))
		second, _ := base.Commit(files, idOf(o))
		base.Commit(files, api.Id{1})
		base.Commit(files, idOf(blob("beside it")))
		wantCrowded(t, "Commit", files, was)
		texts := append(textsOf(first), textsOf(second)...)
		for i, a := range texts {
			for _, b := range texts[i+1:] {
				if sharing(a, b) {
					t.Errorf("Commit: %q and %q share memory", a, b)
				}
			}
		}
		clear(second.Parents[:cap(second.Parents)])
		scratch(files)
		if again, _ := object.PutCommit(first); !bytes.Equal(again, data) {
			t.Error("Commit's answer shares memory")
		}
	}
}

// 'Memory': Walk and Bases change nothing, keep nothing, and answer new memory.
func TestWalkMemory(t *testing.T) {
	list := chain("a ", 5)
	left, right := commit("left", 9, idsOf(list[4], list[3])...), commit("right", 8, idsOf(list[3], list[4])...)
	a, b := idOf(left), idOf(right)
	all := append(list, left, right)
	for _, was := range bothWays(t, all...) {
		files := crowded(was)
		from := append(make([]api.Id, 0, 40), a, b, a)
		spare := from[3:cap(from)]
		for i := range spare {
			spare[i] = api.Id{0xa5}
		}
		first, _ := base.Walk(files, from)
		second, _ := base.Walk(files, from)
		best, _ := base.Bases(files, a, b)
		other, _ := base.Bases(files, a, b)
		base.Within(files, a, b)
		base.Walk(files, from[:0])
		base.Walk(files, []api.Id{{1}})
		wantCrowded(t, "Walk, Within or Bases", files, was)
		if !slices.Equal(from, []api.Id{a, b, a}) || slices.ContainsFunc(spare, func(id api.Id) bool { return id != api.Id{0xa5} }) {
			t.Error("Walk changes its argument")
		}
		clear(second[:cap(second)])
		clear(other[:cap(other)])
		clear(from)
		scratch(files)
		if !slices.Equal(first, idsOf(left, right, list[4], list[3], list[2], list[1], list[0])) {
			t.Errorf("Walk's answer shares memory: %s", brief(first))
		}
		if !slices.Equal(best, idsOf(list[4])) {
			t.Errorf("Bases' answer shares memory: %s", brief(best))
		}
	}
}

// P2: what is asked again has the same answer, whatever was asked between.
func TestAnsweredAgain(t *testing.T) {
	list := chain("a ", 20)
	tips := []api.Object{commit("b", 3, idsOf(list[10], list[19])...), commit("c", 3, idsOf(list[15], list[3])...)}
	files := own(append(list, tips...)...)
	first, _ := base.Walk(files, idsOf(tips...))
	for range 20 {
		wantWalk(t, "another one", files, idsOf(list[2]), idsOf(list[2], list[1], list[0])...)
		wantError(t, "one that isn't there", files, api.ErrNone, api.Id{1})
		wantBases(t, "again", files, idOf(tips[0]), idOf(tips[1]), idOf(list[15]))
		wantWithin(t, "again", files, idOf(list[19]), idOf(tips[1]), false)
		wantWalk(t, "again", files, idsOf(tips...), first...)
	}
}
