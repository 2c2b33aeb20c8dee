package repo_test

import (
	"fmt"
	"slices"
	"testing"

	"codicil/api"
	"codicil/refs"
	"codicil/repo"
)

// P24.6: a branch with other slots: what is unlike comes, goes or is another file, in the index and in the worktree.
func TestSwitch(t *testing.T) {
	files, one := at(t, "a x", "b/c y", "d z", "m same")
	files, two := branching(files, "b", "a new", "b/c y", "e* more", "f@ link", "m* same")
	behind := want(t, "switch", files, switchTo("b"))
	wantHead(t, "switch", behind, "refs/heads/b", two)
	wantIndex(t, "switch", behind, "a new", "b/c y", "e* more", "f@ link", "m* same")
	wantWork(t, "switch", behind, "a new", "b/c y", "e more", "f link", "m same")
	wantStatus(t, "switch", behind)
	l, _ := repo.Index(behind)
	for i, wanted := range []int{0, 8, 0, 0, 0} {
		if l[i].Size != wanted || l[i].Time != wanted && l[i].Time != 10 {
			t.Errorf("the slot of %s has Size %d, Time %d", l[i].Path, l[i].Size, l[i].Time)
		}
	}
	if r, e := refs.Get(behind, "HEAD"); e != api.OK || r.Target != "refs/heads/b" || r.Id != (api.Id{}) {
		t.Errorf("HEAD is %v, error %d", r, e)
	}
	if l, e := refs.Notes(behind, "HEAD"); e != api.OK || len(l) != 1 {
		t.Errorf("notes of HEAD: %v, error %d", l, e)
	}
	behind = want(t, "and back", behind, switchTo("main"))
	wantHead(t, "and back", behind, mainName, one)
	wantIndex(t, "and back", behind, "a x", "b/c y", "d z", "m same")
	wantWork(t, "and back", behind, "a x", "b/c y", "d z", "m same")
	for _, files := range [][]api.File{packedUp(t, files), packedUp(t, behind)} {
		wantStatus(t, "from a pack", want(t, "from a pack", files, switchTo("b")))
	}
}

// P24.6: a branch with the same slots, at the same commit or another one, and the same branch: all that was changed stays.
func TestSwitchAlike(t *testing.T) {
	files, one := at(t, "a x", "b/c y", "d z")
	files, two := branching(files, "b", "a x", "b/c y", "d z")
	files = want(t, "branch", files, branch("c", one))
	files = working(indexed(without(files, "work/d"), sized(slots("a* x", "e added"))), "a changed", "f unknown")
	before, _ := repo.Status(files)
	for name, tip := range map[string]api.Id{"b": two, "c": one, "main": one} {
		behind := want(t, name, files, switchTo(name))
		wantHead(t, name, behind, "refs/heads/"+name, tip)
		wantIndex(t, name, behind, "a* x", "e added")
		wantWork(t, name, behind, "a changed", "b/c y", "f unknown")
		if l, _ := repo.Status(behind); len(l) != len(before) || len(l) < 5 {
			t.Errorf("Switch(%s): Status %v, it was %v", name, l, before)
		}
	}
}

// P24.6: changed paths that are not unlike stay, of each kind, while others come and go.
func TestSwitchKeeps(t *testing.T) {
	files, _ := at(t, "a x", "b y", "c z", "d u", "e v", "g w")
	files, _ = branching(files, "b", "a x", "b y", "c z", "d u", "e new", "h w")
	files = working(indexed(without(without(files, "work/b"), "work/c"), slots("a x", "b y", "d staged", "e v", "g w", "i added")), "a changed", "d other", "i added", "j unknown")
	wantStatus(t, "ahead", files, " M a", " D b", "D  c", "MM d", "A  i", " ? j")
	behind := want(t, "keeps", files, switchTo("b"))
	wantIndex(t, "keeps", behind, "a x", "b y", "d staged", "e new", "h w", "i added")
	wantWork(t, "keeps", behind, "a changed", "d other", "e new", "h w", "i added", "j unknown")
	wantStatus(t, "keeps", behind, " M a", " D b", "D  c", "MM d", "A  i", " ? j")
}

// P24.6: from a branch without a tip, and to one without: the first has no slots, the second isn't there.
func TestSwitchUnborn(t *testing.T) {
	files, two := branching(begun(t), "b", "a x", "c/d y")
	behind := want(t, "no tip", files, switchTo("b"))
	wantHead(t, "no tip", behind, "refs/heads/b", two)
	wantWork(t, "no tip", behind, "a x", "c/d y")
	wantStatus(t, "no tip", behind)
	wantError(t, "back to it", behind, switchTo("main"), api.ErrNone)
	wantError(t, "to itself", files, switchTo("main"), api.ErrNone)
	wantError(t, "a file is there", working(files, "a x"), switchTo("b"), api.ErrDirty)
	wantError(t, "a slot is there", indexed(files, slots("a x")), switchTo("b"), api.ErrDirty)
	kept := want(t, "others are there", working(indexed(files, slots("e z")), "e z"), switchTo("b"))
	wantStatus(t, "others are there", kept, "A  e")
}

// P24.6: a path that is unlike, and all that index and worktree may have of it: only what the tip has, unchanged, may go.
func TestSwitchDirty(t *testing.T) {
	for _, one := range []struct{ tip, next string }{{"p x", "p y"}, {"p x", ""}, {"", "p y"}, {"p x", "p* x"}, {"p* x", "p y"}, {"p x", "p x"}, {"", ""}} {
		all := func(told string) []string {
			if told == "" {
				return []string{"k same"}
			}
			return []string{"k same", told}
		}
		files, _ := at(t, all(one.tip)...)
		files, _ = branching(files, "b", all(one.next)...)
		count := 0
		for _, staged := range []string{"", "p x", "p* x", "p@ x", "p y", "p* y", "p z"} {
			for _, work := range []string{"", "p x", "p y", "p ", "p z"} {
				in := indexed(without(files, "work/p"), sized(slots(all(staged)...)))
				if work != "" {
					in = working(in, work)
				}
				what := fmt.Sprintf("from %q to %q, %q in the index, %q in the worktree", one.tip, one.next, staged, work)
				_, _, e := wantPlain(t, what, in, switchTo("b"))
				if e == api.OK {
					count++
				} else if e != api.ErrDirty {
					t.Errorf("%s: error %d", what, e)
				}
			}
		}
		wanted := 1
		if one.tip == one.next {
			wanted = 35
		}
		if count != wanted {
			t.Errorf("from %q to %q: %d ways are taken, wanted %d", one.tip, one.next, count, wanted)
		}
	}
}

// P24.6: a file that is too long for a blob is not clean, also where the slot's id is all 0.
func TestSwitchNoBlob(t *testing.T) {
	files, id := odd(begun(t), api.Id{}, "b")
	files = referring(files, api.Ref{Name: mainName, Id: id})
	l := slots("a a", "b b")
	l[1].Id = api.Id{}
	files = having(working(indexed(files, l), "a a"), "work/b", string(make([]byte, api.MaxData+1)))
	files, _ = branching(files, "n", "a a")
	wantStatus(t, "too long", files, " M b")
	wantError(t, "too long", files, switchTo("n"), api.ErrDirty)
}

// P24.6: each error of Switch, beside those that come behind it.
func TestSwitchErrors(t *testing.T) {
	files, _ := at(t, "a x", "b y")
	files, two := branching(files, "b", "a new", "c more")
	no := func(name string) command { return switchBy(nobody(), name) }
	tipless := referring(files, api.Ref{Name: mainName, Id: api.Id{9}})
	stages := indexed(tipless, slots("1:a x"))
	wantError(t, "busy", having(stages, "seq", ""), no("none"), api.ErrBusy)
	for _, name := range []string{"none", "", "b/", "refs/heads/b", "B", "b.lock", "HEAD"} {
		wantError(t, "not there", stages, no(name), api.ErrNone)
	}
	for _, stage := range []string{"1:", "2:", "3:"} {
		wantError(t, "a stage", indexed(tipless, slots("a x", stage+"z x")), no("b"), api.ErrClash)
	}
	dirty := working(indexed(files, slots("a x", "b z")), "c x")
	wrongNext := referring(dirty, api.Ref{Name: "refs/heads/b", Id: idOf(blob("x"))})
	wantError(t, "no tip", referring(wrongNext, api.Ref{Name: mainName, Id: api.Id{9}}), no("b"), api.ErrNone)
	bad, noTree := pointing(wrongNext, api.Id{8})
	wantError(t, "no tree of the tip", referring(bad, api.Ref{Name: mainName, Id: noTree}), no("b"), api.ErrNone)
	wantError(t, "the branch is no commit", wrongNext, no("b"), api.ErrType)
	wantError(t, "the branch has no tree", referring(bad, api.Ref{Name: "refs/heads/b", Id: noTree}), no("b"), api.ErrNone)
	wantError(t, "the branch has a Target", referring(dirty, api.Ref{Name: "refs/heads/b", Target: mainName}), no("b"), api.ErrNone)
	wantError(t, "dirty", without(dirty, place("new")), no("b"), api.ErrDirty)
	wantError(t, "no blob", without(files, place("new")), no("b"), api.ErrNone)
	wantError(t, "no ident", files, no("b"), api.ErrName)
	wantHead(t, "all well", want(t, "all well", files, switchTo("b")), "refs/heads/b", two)
	wantError(t, "no repository", without(having(stages, "seq", ""), "index"), no("none"), api.ErrForm)
}

// P24.6: what comes into the worktree: only slots that are unlike are asked.
func TestSwitchComing(t *testing.T) {
	files, _ := at(t, "a x", "k kept")
	comes := func(list ...string) []api.File {
		behind, _ := branching(files, "b", append(list, "k kept")...)
		return behind
	}
	no := switchBy(nobody(), "b")
	most, _ := branching(files, "b", "a x", "k kept", long(150)+" y")
	want(t, "150 bytes", most, switchTo("b"))
	other, _ := branching(files, "b", "a gone", "k kept", long(151)+" y")
	wantError(t, "151 bytes", working(without(other, place("gone")), long(151)+"/z unknown"), no, api.ErrName)
	wantError(t, "no blob", without(comes("a gone"), place("gone")), no, api.ErrNone)
	kept := want(t, "the blob of one that stays", without(comes("a x", "c y"), place("kept")), switchTo("b"))
	wantWork(t, "the blob of one that stays", kept, "a x", "c y", "k kept")
	tree, id := odd(files, idOf(api.Object{Kind: api.Tree}), "b", "c")
	tree = referring(tree, api.Ref{Name: "refs/heads/b", Id: id})
	wantError(t, "a tree", without(working(tree, "c/d x"), place("c")), no, api.ErrType)
	wantError(t, "no blob ahead of it", without(tree, place("a")), no, api.ErrNone)
	wantError(t, "no blob behind it", without(working(tree, "c/d x"), place("b")), no, api.ErrType)
	// A path of 151 bytes that stays, or that goes, is of no account.
	files, _ = at(t, "a x", long(151)+" y")
	files, _ = branching(files, "b", "a z", long(151)+" y")
	files, _ = branching(files, "c", "a z")
	want(t, "a long path stays", files, switchTo("b"))
	wantWork(t, "a long path goes", want(t, "a long path goes", files, switchTo("c")), "a z")
}

// P24.6: a path that comes and is a folder of a file that stays, or the other way round.
func TestSwitchFolders(t *testing.T) {
	files, _ := at(t, "a x", "b/c y", "k kept")
	files, _ = branching(files, "b", "a/d x", "b y", "e/f z", "k kept")
	behind := want(t, "files become folders", files, switchTo("b"))
	wantWork(t, "files become folders", behind, "a/d x", "b y", "e/f z", "k kept")
	wantWork(t, "and back", want(t, "and back", behind, switchTo("main")), "a x", "b/c y", "k kept")
	for _, path := range []string{"a/d/g", "b/g", "e", "e/f/g", "b/h/i"} {
		wantError(t, path, working(files, path+" unknown"), switchBy(nobody(), "b"), api.ErrExists)
		// Unlike Reset, a slot of its own doesn't make it go.
		list := []string{"a x", "b/c y", "k kept", path + " known"}
		slices.Sort(list)
		staged := indexed(working(files, path+" known"), slots(list...))
		wantError(t, path, staged, switchBy(nobody(), "b"), api.ErrExists)
		// Where the index alone has such a path, nothing stands in the way: an index may have both.
		if _, _, e := wantPlain(t, path, without(staged, "work/"+path), switchTo("b")); e != api.OK {
			t.Errorf("%s in the index alone: error %d", path, e)
		}
	}
	for _, path := range []string{"a-", "e-", "e/g", "b-", "e/ff"} {
		wantStatus(t, path, want(t, path, working(files, path+" unknown"), switchTo("b")), " ? "+path)
	}
}

// P24.6: an index that would have too many slots then, ahead of blobs that aren't there.
func TestSwitchFull(t *testing.T) {
	files, _ := at(t, "a x")
	files, _ = branching(files, "b", "a x", "z gone")
	list := []string{"a x"}
	for i := range api.MaxEntries - 1 {
		list = append(list, fmt.Sprintf("f%04d x", i))
	}
	wantError(t, "full", without(indexed(files, slots(list...)), place("gone")), switchBy(nobody(), "b"), api.ErrLong)
	wantError(t, "full and dirty", working(indexed(files, slots(list...)), "z own"), switchBy(nobody(), "b"), api.ErrDirty)
	want(t, "just full", indexed(files, slots(list[:api.MaxEntries-1]...)), switchTo("b"))
	want(t, "the same branch", indexed(files, slots(list...)), switchTo("main"))
}
