package base_test

import (
	"slices"
	"testing"

	"codicil/api"
	"codicil/base"
)

// P22.1 to P22.3: the chapter's examples.
func TestExamples(t *testing.T) {
	a, alone := commit("a", 0), commit("alone", 0)
	b, c := commit("b", 0, idOf(a)), commit("c", 0, idOf(a))
	for _, files := range bothWays(t, a, b, c, alone) {
		wantBases(t, "two with one parent", files, idOf(b), idOf(c), idOf(a))
		wantBases(t, "nothing in common", files, idOf(b), idOf(alone))
		wantBases(t, "nothing in common", files, idOf(a), idOf(alone))
	}
}

// P22.1: no ids, one commit, and one that is named several times.
func TestWalkFew(t *testing.T) {
	a := commit("a", 1)
	for _, files := range append(bothWays(t, a), nil, []api.File{}) {
		wantWalk(t, "no ids", files, nil)
		wantWalk(t, "no ids", files, []api.Id{})
	}
	b := commit("b", 2, idOf(a))
	for _, files := range bothWays(t, a, b) {
		wantWalk(t, "one", files, idsOf(a), idOf(a))
		wantWalk(t, "one, twice", files, idsOf(a, a), idOf(a))
		wantWalk(t, "one, often", files, slices.Repeat(idsOf(a), 10000), idOf(a))
		wantWalk(t, "two", files, idsOf(b), idsOf(b, a)...)
		wantWalk(t, "both, over and over", files, idsOf(a, b, b, a, b), idsOf(b, a)...)
	}
}

// P22.1: the one with the greatest time first, of several the one with the least id.
func TestWalkTimes(t *testing.T) {
	a, b, c := commit("a", 1), commit("b", 2), commit("c", 3)
	all := own(a, b, c)
	wantWalk(t, "three times", all, idsOf(a, b, c), idsOf(c, b, a)...)
	wantWalk(t, "three times", all, idsOf(b, c, a), idsOf(c, b, a)...)
	late, latest := commit("late", 999999), commit("latest", 1000000)
	wantWalk(t, "great times", own(late, latest, a), idsOf(late, a, latest), idsOf(latest, late, a)...)
	var same []api.Object
	for _, text := range []string{"1", "2", "3", "4", "5", "6", "7", "8"} {
		same = append(same, commit(text, 5))
	}
	wantWalk(t, "equal times", own(same...), idsOf(same...), rising(idsOf(same...)...)...)
	tip := commit("tip", 5, idsOf(same...)...)
	wantWalk(t, "parents with equal times", own(append(same, tip)...), idsOf(tip), append(idsOf(tip), rising(idsOf(same...)...)...)...)
	// Of each pair of a chain with a later and an earlier commit, the later one first, whatever the ids are.
	wantWalk(t, "some equal times", own(append(same, a, late)...), append(idsOf(a, late), idsOf(same...)...), slices.Concat(idsOf(late), rising(idsOf(same...)...), idsOf(a))...)
}

// P22.1, P22.3: each commit stands ahead of its parents, also where its time is less than theirs.
func TestWalkChildFirst(t *testing.T) {
	a := commit("a", 100)
	b := commit("b", 1, idOf(a))
	c := commit("c", 50, idOf(b))
	d := commit("d", 60)
	files := own(a, b, c, d)
	wantWalk(t, "a lesser time than its parent", files, idsOf(b), idsOf(b, a)...)
	wantWalk(t, "a chain", files, idsOf(c), idsOf(c, b, a)...)
	wantWalk(t, "both handed in", files, idsOf(a, b), idsOf(b, a)...)
	wantWalk(t, "an ancestor handed in", files, idsOf(a, c), idsOf(c, b, a)...)
	wantWalk(t, "another one beside", files, idsOf(c, d), idsOf(d, c, b, a)...)
	e := commit("e", 40)
	wantWalk(t, "another one between", own(a, b, c, e), idsOf(e, c), idsOf(c, e, b, a)...)
}

// P22.1: a parent waits for all commits that name it, how often ever, but for none that isn't an ancestor.
func TestWalkParents(t *testing.T) {
	root := commit("root", 100)
	left, right := commit("left", 10, idOf(root)), commit("right", 20, idOf(root))
	top := commit("top", 30, idsOf(left, right)...)
	deep := commit("deep", 5, idsOf(top, root)...)
	outside := commit("outside", 200, idOf(root))
	for _, files := range bothWays(t, root, left, right, top, deep, outside) {
		wantWalk(t, "two parents", files, idsOf(top), idsOf(top, right, left, root)...)
		wantWalk(t, "a parent that is an ancestor of the other one", files, idsOf(deep), idsOf(deep, top, right, left, root)...)
		wantWalk(t, "one side", files, idsOf(left), idsOf(left, root)...)
		wantWalk(t, "two sides", files, idsOf(left, right), idsOf(right, left, root)...)
		wantWalk(t, "another child of the root", files, idsOf(left, outside), idsOf(outside, left, root)...)
	}
	twice := commit("twice", 1, idsOf(left, left, root, left)...)
	wantWalk(t, "one parent several times", own(root, left, twice), idsOf(twice), idsOf(twice, left, root)...)
	wantBases(t, "one parent several times", own(root, left, twice), idOf(twice), idOf(left), idOf(left))
	var many []api.Object
	for i := range api.MaxParents {
		many = append(many, commit("one of many", 10+i, idOf(root)))
	}
	wide := commit("wide", 0, idsOf(many...)...)
	back := slices.Clone(many)
	slices.Reverse(back)
	wantWalk(t, "as many parents as may be", own(append(many, wide, root)...), idsOf(wide), idsOf(append(append([]api.Object{wide}, back...), root)...)...)
}

// P22.2: a commit and itself, its parent, its child, one that is neither, and one that isn't there.
func TestWithin(t *testing.T) {
	a := commit("a", 1)
	b := commit("b", 2, idOf(a))
	c := commit("c", 3, idOf(b))
	side := commit("side", 4, idOf(a))
	top := commit("top", 5, idsOf(side, c)...)
	missing := idOf(commit("missing", 1))
	for _, files := range bothWays(t, a, b, c, side, top, blob("abc")) {
		for _, o := range []api.Object{a, b, c, side, top} {
			wantWithin(t, "itself", files, idOf(o), idOf(o), true)
			wantWithin(t, "its ancestor", files, idOf(a), idOf(o), true)
			wantWithin(t, "its descendant", files, idOf(o), idOf(top), true)
			wantWithin(t, "one that isn't there", files, missing, idOf(o), false)
			wantWithin(t, "no id", files, api.Id{}, idOf(o), false)
			wantWithin(t, "a blob", files, idOf(blob("abc")), idOf(o), false)
			wantError(t, "b isn't there", files, api.ErrNone, missing)
			if is, e := base.Within(files, idOf(o), missing); is || e != api.ErrNone {
				t.Errorf("Within of one that isn't there: %t, error %d", is, e)
			}
			if is, e := base.Within(files, idOf(o), idOf(blob("abc"))); is || e != api.ErrType {
				t.Errorf("Within of a blob: %t, error %d", is, e)
			}
		}
		wantWithin(t, "a child", files, idOf(b), idOf(a), false)
		wantWithin(t, "a parent", files, idOf(b), idOf(c), true)
		wantWithin(t, "a descendant", files, idOf(top), idOf(a), false)
		wantWithin(t, "another side", files, idOf(side), idOf(c), false)
		wantWithin(t, "another side", files, idOf(c), idOf(side), false)
	}
	// Only b is gone through: what is wrong about a is of no account.
	bad := broken("bad")
	orphan := commit("orphan", 1, missing)
	files := own(a, b, bad, orphan)
	for _, id := range idsOf(bad, orphan) {
		wantWithin(t, "a is wrong", files, id, idOf(b), false)
	}
	// All of b is gone through, also behind the place where a is found.
	if is, e := base.Within(files, idOf(orphan), idOf(orphan)); is || e != api.ErrNone {
		t.Errorf("Within of a commit whose parent isn't there, and itself: %t, error %d", is, e)
	}
}

// P22.2, P22.3: one commit, a commit and its ancestor, two branches, several best ones, none.
func TestBases(t *testing.T) {
	root := commit("root", 1)
	a := commit("a", 2, idOf(root))
	b := commit("b", 3, idOf(root))
	// Criss-cross: both sides have taken in the other one.
	x := commit("x", 4, idsOf(a, b)...)
	y := commit("y", 5, idsOf(b, a)...)
	x2, y2 := commit("x2", 6, idOf(x)), commit("y2", 7, idOf(y))
	c := commit("c", 8, idOf(a))
	other := commit("other", 9)
	joined := commit("joined", 10, idsOf(c, other)...)
	list := []api.Object{root, a, b, x, y, x2, y2, c, other, joined}
	for _, files := range bothWays(t, list...) {
		for _, o := range list {
			wantBases(t, "one commit", files, idOf(o), idOf(o), idOf(o))
		}
		wantBases(t, "a parent", files, idOf(root), idOf(a), idOf(root))
		wantBases(t, "an ancestor", files, idOf(root), idOf(y2), idOf(root))
		wantBases(t, "an ancestor by two ways", files, idOf(b), idOf(x2), idOf(b))
		wantBases(t, "two branches", files, idOf(a), idOf(b), idOf(root))
		wantBases(t, "a criss-cross", files, idOf(x), idOf(y), idsOf(a, b)...)
		wantBases(t, "above a criss-cross", files, idOf(x2), idOf(y2), idsOf(a, b)...)
		wantBases(t, "a branch and a join", files, idOf(c), idOf(x), idOf(a))
		wantBases(t, "nothing in common", files, idOf(other), idOf(x2))
		wantBases(t, "nothing in common but by one parent", files, idOf(joined), idOf(b), idOf(root))
		wantBases(t, "a root of its own", files, idOf(joined), idOf(other), idOf(other))
		wantBases(t, "one parent", files, idOf(joined), idOf(y), idOf(a))
	}
}

// P22.2: three best common ancestors, and one that is hidden by another by a long way round and late times.
func TestBasesHidden(t *testing.T) {
	old := commit("old", 1000)
	next := old
	list := []api.Object{old}
	for i := range 20 {
		next = commit("way", 10-i%10, idOf(next))
		list = append(list, next)
	}
	// Both tips name old itself, too.
	a, b := commit("a", 1, idsOf(old, next)...), commit("b", 2, idsOf(next, old)...)
	files := own(append(list, a, b)...)
	wantBases(t, "a long way round", files, idOf(a), idOf(b), idOf(next))
	var three []api.Object
	for _, text := range []string{"p", "q", "r"} {
		three = append(three, commit(text, 5, idOf(old)))
	}
	c, d := commit("c", 6, idsOf(three...)...), commit("d", 7, idsOf(append(three, old)...)...)
	wantBases(t, "three", own(append(three, old, c, d)...), idOf(c), idOf(d), idsOf(three...)...)
}
