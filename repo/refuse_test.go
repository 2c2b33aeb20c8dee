package repo_test

import (
	"bytes"
	"slices"
	"strings"
	"testing"

	"codicil/api"
	"codicil/refs"
	"codicil/repo"
)

// noRepositories answers files that are no repository, each made of good ones.
func noRepositories(t *testing.T, good []api.File, tip api.Id) map[string][]api.File {
	t.Helper()
	turned := func(path string, at int) []api.File {
		p, there := []byte{}, false
		for _, f := range good {
			if f.Path == path {
				p, there = bytes.Clone(f.Data), true
			}
		}
		if !there {
			t.Fatalf("there is no %s", path)
		}
		if at < 0 {
			at += len(p)
		}
		p[at] ^= 1
		return patched(good, map[string][]byte{path: p})
	}
	swapped := slices.Clone(good)
	swapped[0], swapped[1] = swapped[1], swapped[0]
	table := "reftable/000000000001-000000000001.ref"
	return map[string][]api.File{
		"nothing":                 nil,
		"no files":                {},
		"swapped":                 swapped,
		"a file twice":            append(slices.Clone(good), good[len(good)-1]),
		"a path that is none":     append(slices.Clone(good), api.File{Path: "z//z"}),
		"a path of .git":          having(good, "work/.git", "x"),
		"an empty path":           append([]api.File{{}}, good...),
		"no list of tables":       without(good, "reftable/tables.list"),
		"another list":            turned("reftable/tables.list", 0),
		"a list without its end":  turned("reftable/tables.list", -1),
		"an empty list":           having(good, "reftable/tables.list", ""),
		"no table":                without(good, table),
		"a table that is turned":  turned(table, 30),
		"a table without bytes":   having(good, table, ""),
		"no HEAD":                 referring(good, api.Ref{Name: "HEAD"}),
		"HEAD with an Id":         referring(good, api.Ref{Name: "HEAD", Id: tip}),
		"no index":                without(good, "index"),
		"an index without bytes":  having(good, "index", ""),
		"an index with a sum":     turned("index", -1),
		"an index that is turned": turned("index", 4),
		"an index that is long":   having(good, "index", strings.Repeat("x", 2*api.MaxData+1)),
		"an index that goes on":   having(good, "index", "DIRC"),
	}
}

// commands answers every command that changes files, with good arguments and with wrong ones.
func commands(tip api.Id) []command {
	tooMuch := strings.Repeat("m", api.MaxData+1)
	return []command{
		write("n", "x"), write("n//", tooMuch), write("", ""),
		erase("a"), erase("none"),
		add("a", 1), add("none", -1),
		commit("m"), commitBy(nobody(), "m\x00"+tooMuch),
		branch("n", tip), branchBy(nobody(), "", api.Id{1}),
		switchTo("b"), switchBy(nobody(), "none"),
		reset(2, tip), resetBy(nobody(), 7, api.Id{1}),
	}
}

// The errors that all but Init have: no repository, ahead of whatever else is wrong.
func TestNoRepository(t *testing.T) {
	good, tip := at(t, "a x", "b/c y")
	good, _ = branching(good, "b", "a y")
	if e := wantRead(t, "good", good); e != api.OK {
		t.Fatalf("Status of good files: error %d", e)
	}
	for what, files := range noRepositories(t, good, tip) {
		if e := wantRead(t, what, files); e != api.ErrForm {
			t.Errorf("%s: Status has error %d", what, e)
		}
		for _, c := range commands(tip) {
			wantError(t, what, files, c, api.ErrForm)
			wantError(t, what+", busy", patchedBehind(files), c, api.ErrForm)
		}
	}
}

// patchedBehind answers files with one more at their end, which leaves those ahead as they are.
func patchedBehind(files []api.File) []api.File {
	return append(slices.Clone(files), api.File{Path: "zz"})
}

// P24.8: beside an error there are no files, and no id; and what a command with an error was given is as it was.
func TestErrorsAnswerNothing(t *testing.T) {
	files, tip := at(t, "a x", "a2 x")
	files = having(indexed(files, slots("1:a x")), "seq", "")
	was := patched(files, nil)
	count := 0
	for _, c := range commands(tip) {
		made, id, e := c.run(files)
		if e == api.OK {
			continue
		}
		count++
		if len(made) != 0 || id != (api.Id{}) {
			t.Errorf("%s: %d files, %x, beside error %d", c.what, len(made), id, e)
		}
		if !sameFiles(files, was) {
			t.Fatalf("%s changes what it was given: it %s", c.what, differing(files, was))
		}
	}
	if count < 10 {
		t.Errorf("%d commands have errors", count)
	}
}

// P24.8: references, notes, objects and other files that a command doesn't name stay, whatever they are.
func TestWhatIsNotNamedStays(t *testing.T) {
	files, tip := at(t, "a x", "b/c y")
	files, _ = branching(files, "b", "a new", "d z")
	files = referring(files, api.Ref{Name: "refs/tags/t", Id: idOf(blob("tag"))})
	files = referring(files, api.Ref{Name: "refs/heads/x", Target: "refs/heads/none"})
	files, _ = stored(files, blob("left alone"), api.Object{Kind: api.Tag, Data: []byte("not in form")})
	for _, path := range []string{"objects/x", "objects/pack/pack-x.pack", "other", "reftable/other", "workx", "zz"} {
		files = having(files, path, "whatever")
	}
	refsWere, _ := refs.List(files)
	for _, c := range []command{
		write("n", "x"), write("a", "other"), erase("a"), add("a", 3), branch("n", tip), switchTo("b"), reset(0, tip), reset(1, tip), reset(2, tip),
	} {
		behind := want(t, "stays", files, c)
		for _, f := range files {
			moves := f.Path == "index" || strings.HasPrefix(f.Path, "work/") || strings.HasPrefix(f.Path, "reftable/0") || f.Path == "reftable/tables.list"
			if !moves && !slices.ContainsFunc(behind, func(g api.File) bool { return sameFiles([]api.File{f}, []api.File{g}) }) {
				t.Errorf("%s: %s isn't as it was", c.what, f.Path)
			}
		}
		refsAre, _ := refs.List(behind)
		for _, r := range refsWere {
			if r.Name != "HEAD" && r.Name != mainName && !slices.Contains(refsAre, r) {
				t.Errorf("%s: %v isn't as it was", c.what, r)
			}
		}
		for _, name := range []string{"refs/tags/t", "refs/heads/b", "refs/heads/x", mainName} {
			were, _ := refs.Notes(files, name)
			if are, _ := refs.Notes(behind, name); !slices.Equal(are, were) {
				t.Errorf("%s: notes of %s are %v, they were %v", c.what, name, are, were)
			}
		}
	}
}

// P1: whatever bytes the files have, nothing panics, and an answer is the same each time.
func TestAnyBytes(t *testing.T) {
	good, tip := at(t, "a x", "b/c y")
	good, _ = branching(good, "b", "a new", "d z")
	for i, f := range good {
		for at := range f.Data {
			if at > 40 && at%7 != 0 {
				continue
			}
			files := slices.Clone(good)
			files[i].Data = bytes.Clone(f.Data)
			files[i].Data[at] ^= byte(1 + at%255)
			wantRead(t, f.Path, files)
			for _, c := range []command{reset(2, tip), switchTo("b"), commit("m"), add("a", 1)} {
				wantPlain(t, f.Path, files, c)
			}
			cut := slices.Clone(good)
			cut[i].Data = f.Data[:at]
			wantRead(t, f.Path, cut)
			wantPlain(t, f.Path, cut, switchTo("b"))
		}
	}
	if _, e := repo.Status(good); e != api.OK {
		t.Errorf("Status: error %d", e)
	}
}
