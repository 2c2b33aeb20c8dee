package base_test

import (
	"bytes"
	"slices"
	"strings"
	"testing"

	"codicil/api"
	"codicil/object"
)

// P22.1: the commit, with a file of its own and in a pack; its tree and its parents needn't be there.
func TestCommit(t *testing.T) {
	parents := make([]api.Id, api.MaxParents)
	for i := range parents {
		parents[i] = api.Id{byte(i)}
	}
	for _, s := range []api.Snapshot{
		{Parents: parents[:0]},
		{Parents: parents[:0], Tree: api.Id{7}, Author: api.Ident{Name: "A B", Email: "a@b", Time: 5, Zone: -90}, Committer: api.Ident{Name: "C", Time: 1 << 40, Zone: 1439}, Message: "one\n\ntwo"},
		{Parents: parents[3:4], Message: "one parent"},
		{Parents: parents, Committer: api.Ident{Email: "é"}, Message: strings.Repeat("\n", api.MaxText)},
		{Parents: slices.Repeat(parents[:1], 2), Message: "twice the same"},
	} {
		data, e := object.PutCommit(s)
		if e != api.OK {
			t.Fatalf("PutCommit: error %d", e)
		}
		o := api.Object{Kind: api.Commit, Data: data}
		for _, files := range bothWays(t, o, blob("another"), commit("another", 1)) {
			wantCommit(t, "it is there", files, idOf(o), s)
			wantCommit(t, "beside other files", slices.Concat([]api.File{{Path: "index"}}, files, []api.File{{Path: "work/a"}}), idOf(o), s)
		}
	}
}

// P22.1: an id that isn't there, and objects that are no commits.
func TestNoCommit(t *testing.T) {
	tag := api.Object{Kind: api.Tag, Data: []byte("object " + strings.Repeat("0", 64) + "\ntype commit\ntag a\ntagger  <> 0 +0000\n\n")}
	if e := object.Check(tag); e != api.OK {
		t.Fatalf("Check: error %d", e)
	}
	others := []api.Object{tag, blob(""), blob("abc"), {Kind: api.Tree}, {Kind: api.Blob, Data: commit("a", 1).Data}, {Kind: api.Tag, Data: commit("a", 1).Data}, {Kind: api.Tree, Data: []byte("no tree")}}
	c := commit("a", 1)
	for _, files := range bothWays(t, append(others, c)...) {
		for _, o := range others {
			wantNoCommit(t, "no commit", files, idOf(o), api.ErrType)
			wantError(t, "no commit", files, api.ErrType, idOf(o))
			wantError(t, "no commit at first", files, api.ErrType, idOf(o), idOf(c))
			wantError(t, "no commit behind", files, api.ErrType, idOf(c), idOf(o))
		}
		for _, id := range []api.Id{{}, {1}, idOf(commit("b", 1))} {
			wantNoCommit(t, "it isn't there", files, id, api.ErrNone)
			wantError(t, "it isn't there", files, api.ErrNone, id)
			wantError(t, "it isn't there at first", files, api.ErrNone, id, idOf(c))
			wantError(t, "it isn't there behind", files, api.ErrNone, idOf(c), id)
		}
	}
	for _, files := range [][]api.File{nil, {}} {
		wantNoCommit(t, "there are no files", files, idOf(c), api.ErrNone)
		wantError(t, "there are no files", files, api.ErrNone, idOf(c))
	}
}

// P22.1: objects of the kind of commits that are not in form.
func TestBrokenCommit(t *testing.T) {
	good := string(commit("a", 1, api.Id{1}).Data)
	for _, text := range []string{
		"", "abc", good[:len(good)-2], "\n" + good, strings.Replace(good, "tree", "Tree", 1), strings.Replace(good, "parent 01", "parent 0g", 1),
		strings.Replace(good, "> 1 +", "> 01 +", 1), good + "\x00", good + strings.Repeat("a", api.MaxText), string(commit("", 0, make([]api.Id, api.MaxParents+1)...).Data),
	} {
		o := broken(text)
		if e := object.Check(o); e != api.ErrForm {
			t.Fatalf("Check of %.50q: error %d", text, e)
		}
		child := commit("child", 2, idOf(o))
		for _, files := range bothWays(t, o, child) {
			wantNoCommit(t, "out of form", files, idOf(o), api.ErrForm)
			wantError(t, "out of form", files, api.ErrForm, idOf(o))
			wantError(t, "its parent is out of form", files, api.ErrForm, idOf(child))
		}
	}
}

// P22.1, P22.2: files that are not in order, whatever else is wrong, also where no commit is met.
func TestFilesOutOfOrder(t *testing.T) {
	c := commit("a", 1)
	for what, files := range outOfOrder(own(c)[0]) {
		for _, id := range []api.Id{idOf(c), {}, {1}} {
			wantNoCommit(t, what, files, id, api.ErrForm)
			wantError(t, what, files, api.ErrForm, id)
			wantError(t, what, files, api.ErrForm, idOf(c), id)
			wantError(t, what, files, api.ErrForm, id, idOf(c), id)
		}
		wantError(t, what, files, api.ErrForm)
	}
}

// P22.1: an object's file that odb.Get refuses.
func TestGetRefuses(t *testing.T) {
	c, other := commit("a", 1), commit("b", 1)
	child := commit("child", 2, idOf(c))
	files := own(c, child)
	for errno, make := range map[api.Errno]func(p []byte) []byte{
		api.ErrShort: func(p []byte) []byte { return p[:1] },
		api.ErrForm:  func(p []byte) []byte { return append(p, 0) },
		api.ErrSum:   func([]byte) []byte { return bytes.Clone(own(other)[0].Data) },
	} {
		bad := changed(files, c, make)
		wantNoCommit(t, "its file is wrong", bad, idOf(c), errno)
		wantError(t, "its file is wrong", bad, errno, idOf(c))
		wantError(t, "its parent's file is wrong", bad, errno, idOf(child))
		wantCommit(t, "only its parent's file is wrong", bad, idOf(child), api.Snapshot{
			Parents: idsOf(c), Author: api.Ident{Time: 999998}, Committer: api.Ident{Time: 2}, Message: "child",
		})
	}
}
