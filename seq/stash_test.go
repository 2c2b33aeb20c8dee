package seq_test

import (
	"strings"
	"testing"

	"codicil/api"
	"codicil/odb"
	"codicil/refs"
)

// topOf answers what was put away last; all 0: nothing.
func topOf(files []api.File) api.Id {
	r, _ := refs.Get(files, topName)
	return r.Id
}

// P25.5: what isn't committed is put away, and comes back: a changed file, one that went, what is in the index alone.
func TestStash(t *testing.T) {
	files, list := chain(begun(), "c", nil, "a x|b y|k same|l link|m* mode")
	tip := list[0]
	files, _ = stored(standing(files, tip, "a x", "b y", "k same", "l link", "m* mode"), blob("new"))
	for _, one := range []struct {
		what          string
		in            []api.File
		put           string
		index, status []string
	}{
		{"a changed file", working(files, "a new"), "a new|b y|k same|l link|m* mode", nil, []string{"M  a"}},
		{"a file that went", without(files, "work/b"), "a x|k same|l link|m* mode", nil, []string{"D  b"}},
		{"a slot that went", without(indexed(files, slots("a x", "k same", "l link", "m* mode")), "work/b"), "a x|k same|l link|m* mode", nil, []string{"D  b"}},
		{"a slot that is another", indexed(files, slots("a staged", "b y", "k same", "l link", "m* mode")), "a x|b y|k same|l link|m* mode", nil, nil},
		{"both are others", working(indexed(files, slots("a staged", "b y", "k same", "l link", "m* mode")), "a new"), "a new|b y|k same|l link|m* mode", nil, []string{"M  a"}},
		{"modes", working(indexed(files, slots("a* x", "b y", "k same", "l@ link", "m mode")), "m new"), "a* x|b y|k same|l@ link|m new", nil, []string{"M  a", "M  l", "M  m"}},
		{"a new file", working(indexed(files, slots("a x", "b y", "k same", "l link", "m* mode", "n/o new")), "n/o new"), "a x|b y|k same|l link|m* mode|n/o new", nil, []string{"A  n/o"}},
		{"a new slot alone", indexed(files, slots("a x", "b y", "k same", "l link", "m* mode", "n/o new")), "a x|b y|k same|l link|m* mode", nil, nil},
		{"nothing left", without(without(without(without(without(files, "work/a"), "work/b"), "work/k"), "work/l"), "work/m"), "", nil, []string{"D  a", "D  b", "D  k", "D  l", "D  m"}},
	} {
		in := working(one.in, "z unknown")
		behind := wantDone(t, one.what, in, stash())
		wantTip(t, one.what, behind, tip)
		wantSameView(t, one.what, behind, referring(working(files, "z unknown"), api.Ref{Name: topName, Id: topOf(behind)}))
		wantCommit(t, one.what, behind, topOf(behind), api.Snapshot{Parents: ids(tip), Author: me(17), Committer: me(17), Message: "stash"}, lines(one.put)...)
		wantNotes(t, one.what, behind, topName, api.Id{}, topOf(behind), "stash")
		wantError(t, one.what+", again", behind, stashBy(nobody()), api.ErrSame)
		back := wantDone(t, one.what, behind, pop())
		wantTip(t, one.what, back, tip)
		wantIndex(t, one.what, back, lines(one.put)...)
		wantStatus(t, one.what, back, append(one.status, " ? z")...)
		wantNotes(t, one.what, back, topName, topOf(behind), api.Id{}, "pop")
		if _, e := refs.Get(back, topName); e != api.ErrNone {
			t.Errorf("%s: the stash is still there, error %d", one.what, e)
		}
		wantError(t, one.what+", no ident", in, stashBy(nobody()), api.ErrName)
		wantError(t, one.what+", no ident", behind, popBy(nobody()), api.ErrName)
		wantError(t, one.what+", no stash", files, popBy(nobody()), api.ErrNone)
	}
}

// P25.5: twice, one upon the other, and back: the last one first.
func TestStashTwice(t *testing.T) {
	files, list := chain(begun(), "c", nil, "a x|b y")
	files = standing(files, list[0], "a x", "b y")
	one := wantDone(t, "one", working(files, "a 1"), stash())
	two := wantDone(t, "two", working(one, "b 2"), stashBy(me(20)))
	three := wantDone(t, "three", working(two, "b 3"), stashBy(me(21)))
	wantCommit(t, "two", two, topOf(two), api.Snapshot{Parents: ids(list[0], topOf(one)), Author: me(20), Committer: me(20), Message: "stash"}, "a x", "b 2")
	back := wantDone(t, "pop", three, pop())
	wantStatus(t, "pop", back, "M  b")
	wantWork(t, "pop", back, "a x", "b 3")
	if topOf(back) != topOf(two) {
		t.Error("pop: the stash isn't the one below")
	}
	wantNotes(t, "pop", back, topName, topOf(three), topOf(two), "pop")
	wantError(t, "not tidy", back, pop(), api.ErrDirty)
	// Others come behind a commit of the first.
	again := wantDone(t, "put away again", back, stash(), pop())
	wantSameView(t, "put away again", again, back)
	files = standing(two, list[0], "a x", "b y")
	files = wantDone(t, "pop", files, pop())
	files, id := grown(files, "moved", ids(list[0]), "a x", "b 2", "c more")
	files = standing(files, id, "a x", "b 2", "c more")
	files = wantDone(t, "upon another tip", files, pop())
	wantStatus(t, "upon another tip", files, "M  a")
	wantIndex(t, "upon another tip", files, "a 1", "b 2", "c more")
	if topOf(files) != (api.Id{}) {
		t.Error("there is still a stash")
	}
}

// P25.5: Pop where both sides' changes come together, where the change is there already, and where it clashes.
func TestPop(t *testing.T) {
	files, list := chain(begun(), "c", nil, "a 1\n2\n3\n|b x", "a 0\n1\n2\n3\n|b x|c own", "a 1\n2\n3\n4\n|b y", "a 1\n2\n3\nour\n")
	put := wantDone(t, "put away", working(standing(files, list[0], "a 1\n2\n3\n", "b x"), "a 1\n2\n3\n4\n", "b y"), stash())
	top := topOf(put)
	before, _ := odb.Ids(put)
	on := standing(put, list[1], "a 0\n1\n2\n3\n", "b x", "c own")
	both := wantDone(t, "both", on, pop())
	wantIndex(t, "both", both, "a 0\n1\n2\n3\n4\n", "b y", "c own")
	wantStatus(t, "both", both, "M  a", "M  b")
	if now, _ := odb.Ids(both); len(now) != len(before)+1 || !odbHas(both, blob("0\n1\n2\n3\n4\n")) {
		t.Errorf("both: %d objects, there were %d", len(now), len(before))
	}
	same := wantDone(t, "there already", standing(put, list[2], "a 1\n2\n3\n4\n", "b y"), pop())
	wantStatus(t, "there already", same)
	if topOf(same) != (api.Id{}) {
		t.Error("there already: there is still a stash")
	}
	clash := without(standing(put, list[3], "a 1\n2\n3\nour\n"), "work/b")
	made, done, e := wantPlain(t, "a clash", working(clash, "n unknown"), pop())
	if _, busy := textOf(made, "seq"); done || busy || e != api.OK || topOf(made) != top {
		t.Errorf("a clash: done %v, busy %v, error %d", done, busy, e)
	}
	wantTip(t, "a clash", made, list[3])
	wantIndex(t, "a clash", made, "1:a 1\n2\n3\n", "2:a 1\n2\n3\nour\n", "3:a 1\n2\n3\n4\n", "1:b x", "3:b y")
	wantWork(t, "a clash", made, "a 1\n2\n3\n<<<<<<< HEAD\nour\n||||||| base\n=======\n4\n>>>>>>> "+digits(top)+"\n", "b y", "n unknown")
	wantError(t, "a clash, once more", made, pop(), api.ErrDirty)
	wantError(t, "a clash, put away", made, stash(), api.ErrClash)
	wantPlain(t, "a clash, nobody is asked for", clash, popBy(nobody()))
	wantError(t, "an unknown file", working(clash, "b unknown"), pop(), api.ErrDirty)
	wantError(t, "a folder", working(clash, "b/c unknown"), pop(), api.ErrExists)
	// Without a tip there are no slots, which is tidy.
	unborn := without(without(indexed(referring(put, api.Ref{Name: mainName}), nil), "work/a"), "work/b")
	made, done, e = wantPlain(t, "no tip", unborn, pop())
	if done || e != api.OK {
		t.Errorf("no tip: %v, error %d", done, e)
	}
}

// P25.5: a stash by hand: one that is no commit, has one parent, three, or none, or a Target of its own.
func TestPopByHand(t *testing.T) {
	files, list := chain(begun(), "c", nil, "a x", "a x|b y")
	files = standing(files, list[0], "a x")
	top := func(r api.Ref) []api.File { r.Name = topName; return referring(files, r) }
	wantError(t, "not there", top(api.Ref{Id: api.Id{1}}), pop(), api.ErrNone)
	wantError(t, "a blob", top(api.Ref{Id: idOf(blob("x"))}), pop(), api.ErrType)
	wantError(t, "a Target", top(api.Ref{Target: mainName}), pop(), api.ErrNone)
	wantStatus(t, "one parent", wantDone(t, "one parent", top(api.Ref{Id: list[1]}), pop()), "A  b")
	var root, three api.Id
	files, root = grown(files, "root", nil, "b y")
	files, three = grown(files, "three", ids(list[0], list[1], root), "a x", "b y")
	wantStatus(t, "no parent", wantDone(t, "no parent", top(api.Ref{Id: root}), pop()), "A  b")
	behind := wantDone(t, "three parents", top(api.Ref{Id: three}), pop())
	if topOf(behind) != list[1] {
		t.Error("three parents: it isn't the second one")
	}
	// The one below needn't be there.
	files, gone := pointing(files, "gone", ids(list[0], api.Id{9}), rootOf(files, list[1]))
	behind = wantDone(t, "gone", top(api.Ref{Id: gone}), pop())
	if topOf(behind) != (api.Id{9}) {
		t.Error("gone: it isn't the second one")
	}
	changed := wantDone(t, "stash upon one that is gone", working(behindTidy(behind, list[0]), "a new"), stash())
	wantCommit(t, "stash upon one that is gone", changed, topOf(changed), api.Snapshot{Parents: ids(list[0], api.Id{9}), Author: me(17), Committer: me(17), Message: "stash"}, "a new")
	target := wantDone(t, "stash upon a Target", working(top(api.Ref{Target: mainName}), "a new"), stash())
	wantCommit(t, "stash upon a Target", target, topOf(target), api.Snapshot{Parents: ids(list[0]), Author: me(17), Committer: me(17), Message: "stash"}, "a new")
}

// behindTidy answers files whose index and worktree are those of a commit of the file a.
func behindTidy(files []api.File, tip api.Id) []api.File {
	return standing(without(files, "work/b"), tip, "a x")
}

// P25.5: each error of Stash, beside those that come behind it.
func TestStashErrors(t *testing.T) {
	files, list := chain(begun(), "c", nil, "a x|b y")
	files = standing(files, list[0], "a x", "b y")
	stages := indexed(files, slots("1:a x"))
	wantError(t, "no tip", referring(stages, api.Ref{Name: mainName}), stashBy(nobody()), api.ErrNone)
	for _, stage := range []string{"1:", "2:", "3:"} {
		wantError(t, "a stage", without(indexed(files, slots(stage+"a x", "b y")), placeOf(list[0])), stashBy(nobody()), api.ErrClash)
	}
	wantError(t, "no tip's commit", without(files, placeOf(list[0])), stash(), api.ErrNone)
	wantError(t, "the tip is a blob", tipped(files, idOf(blob("x"))), stash(), api.ErrType)
	wantError(t, "tidy", working(files, "n unknown"), stashBy(nobody()), api.ErrSame)
	// The tip has a path that the index hasn't, and the worktree has it: it would be lost.
	wantError(t, "known no more", indexed(files, slots("b y")), stashBy(nobody()), api.ErrDirty)
	wantError(t, "known no more", working(indexed(files, slots("b y")), "a other"), stashBy(nobody()), api.ErrDirty)
	wantError(t, "too long", having(files, "work/a", strings.Repeat("x", api.MaxData+1)), stashBy(nobody()), api.ErrLong)
	wantError(t, "too long with its header", having(files, "work/a", strings.Repeat("x", api.MaxData)), stashBy(nobody()), api.ErrLong)
	both := working(indexed(without(files, "work/a"), slots("a x", "a/c z", "b y")), "a/c z")
	wantPlain(t, "a folder in the index, whose file is gone", both, stash())
	wantError(t, "a folder in the index", having(both, "work/a", "x"), stash(), api.ErrExists)
	wantError(t, "no blob of the tip", without(working(files, "a new"), place("y")), stash(), api.ErrNone)
	wantError(t, "a folder", working(without(files, "work/a"), "a/c unknown"), stash(), api.ErrExists)
	wantError(t, "a long path", working(withLong(), long(151)+" new"), stash(), api.ErrName)
}

// withLong answers a repository whose tip has a path of 151 bytes.
func withLong() []api.File {
	files, list := chain(begun(), "c", nil, long(151)+" x")
	return standing(files, list[0], long(151)+" x")
}
