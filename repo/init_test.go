package repo_test

import (
	"strings"
	"testing"

	"codicil/api"
	"codicil/index"
	"codicil/refs"
	"codicil/reftable"
	"codicil/repo"
)

// P24.1: a new repository is HEAD, which names main, and an index without slots.
func TestInit(t *testing.T) {
	for _, who := range []api.Ident{{}, me(1), {Name: strings.Repeat("n", 100), Email: strings.Repeat("e", 100), Time: 1 << 40, Zone: -1439}} {
		files, e := repo.Init(who)
		head := api.Ref{Name: "HEAD", Target: mainName}
		table, _ := reftable.Write([]api.Ref{head}, nil, 1, 1)
		none, _ := index.Put(nil)
		wanted := patched(nil, map[string][]byte{
			"index":                                  none,
			"reftable/000000000001-000000000001.ref": table,
			"reftable/tables.list":                   []byte("000000000001-000000000001.ref\n"),
		})
		if e != api.OK || !sameFiles(files, wanted) {
			t.Fatalf("Init: error %d; it %s", e, differing(files, wanted))
		}
		wantHead(t, "Init", files, mainName, api.Id{})
		wantIndex(t, "Init", files)
		wantWork(t, "Init", files)
		wantStatus(t, "Init", files)
		if l, e := refs.Notes(files, "HEAD"); len(l) != 0 || e != api.OK {
			t.Errorf("Init: notes %v, error %d", l, e)
		}
	}
}

// P24.1: who must be an ident.
func TestInitRefused(t *testing.T) {
	for _, who := range []api.Ident{
		nobody(), {Time: -1}, {Time: 1<<40 + 1}, {Zone: 1440}, {Zone: -1440}, {Email: "\n"}, {Name: "a\x00"}, {Name: strings.Repeat("n", 101)},
	} {
		if files, e := repo.Init(who); len(files) != 0 || e != api.ErrName {
			t.Errorf("Init(%v): %d files, error %d", who, len(files), e)
		}
	}
}

// The chapter's example, and what the whole's first three say of a repository.
func TestExample(t *testing.T) {
	files := want(t, "example", begun(t), write("a", "x"), add("a", 1))
	wantStatus(t, "added", files, "A  a")
	files, one, _ := wantPlain(t, "example", files, commit("one"))
	wantHead(t, "one", files, mainName, one)
	wantIndex(t, "one", files, "a x")
	wantStatus(t, "one", files)
	wantNote(t, "one", files, mainName, api.Id{}, one, me(5), "commit: one")
	wantNote(t, "one", files, "HEAD", api.Id{}, one, me(5), "commit: one")
	wantError(t, "example", files, commit("one"), api.ErrSame)
	files = want(t, "example", files, write("a", "y"))
	wantStatus(t, "written", files, " M a")
	files = want(t, "example", files, branch("b", one), switchTo("b"))
	wantWork(t, "on b", files, "a y")
	wantHead(t, "on b", files, "refs/heads/b", one)
	files = want(t, "example", files, add("a", 2))
	wantStatus(t, "added again", files, "M  a")
	files, two, _ := wantPlain(t, "example", files, commit("two"))
	wantHead(t, "two", files, "refs/heads/b", two)
	wantNote(t, "two", files, "refs/heads/b", one, two, me(5), "commit: two")
	files = want(t, "example", files, switchTo("main"))
	wantWork(t, "on main", files, "a x")
	wantHead(t, "on main", files, mainName, one)
	wantStatus(t, "on main", files)
	files = want(t, "example", files, switchTo("b"), write("c", "z"), add("c", 3), commit("three"), switchTo("main"))
	wantWork(t, "on main, without c", files, "a x")
}

// P24.1: each repository begins without what another one has.
func TestInitAgain(t *testing.T) {
	files := want(t, "one", begun(t), write("a", "x"), add("a", 1), commit("one"))
	if again := begun(t); len(again) != 3 || len(files) == 3 {
		t.Errorf("Init behind others: %d files", len(again))
	}
}
