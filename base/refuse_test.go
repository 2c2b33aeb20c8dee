package base_test

import (
	"slices"
	"strconv"
	"testing"

	"codicil/api"
	"codicil/base"
)

// wrongs answers ids that have an error each, and the files in which they have it; good ones are added.
func wrongs(good ...api.Object) (map[api.Id]api.Errno, []api.File) {
	short, sum := commit("short", 1), commit("sum", 1)
	bad, other := broken("bad"), blob("other")
	files := own(append(good, short, sum, bad, other)...)
	files = changed(files, short, func(p []byte) []byte { return p[:1] })
	files = changed(files, sum, func([]byte) []byte { return own(commit("another", 1))[0].Data })
	return map[api.Id]api.Errno{
		idOf(short): api.ErrShort, idOf(sum): api.ErrSum, idOf(bad): api.ErrForm, idOf(other): api.ErrType, idOf(commit("none", 1)): api.ErrNone,
	}, files
}

// P22.1, P22.2: of several errors the first one that is met, breadth first: ids in the order in which they are handed in,
// then their parents.
func TestFirstError(t *testing.T) {
	errnos, _ := wrongs()
	for first, errno := range errnos {
		for second, other := range errnos {
			if first == second {
				continue
			}
			good := commit("good", 1)
			parents := commit("parents", 1, first, second)
			late := commit("late", 1, idOf(good), first)
			deep := commit("deep", 1, idOf(parents), second)
			child := commit("child", 1, second)
			side := commit("side", 1, idOf(good))
			_, files := wrongs(good, parents, late, deep, child, side)
			wantError(t, "two that are handed in", files, errno, first, second)
			wantError(t, "one is handed in behind another", files, errno, idOf(good), first)
			wantError(t, "behind one that is named twice", files, errno, idOf(good), idOf(good), first, second)
			wantError(t, "two parents", files, errno, idOf(parents))
			wantError(t, "the second parent", files, errno, idOf(late))
			wantError(t, "the nearer one", files, other, idOf(deep))
			wantError(t, "a parent, and one that is handed in", files, errno, idOf(child), first)
			wantError(t, "a parent, and one that is handed in", files, other, second, idOf(parents))
			wantError(t, "parents of two", files, errno, idOf(late), idOf(child))
			wantError(t, "parents of two", files, other, idOf(child), idOf(late))
			wantError(t, "parents of the second", files, errno, idOf(side), idOf(late), idOf(child))
			wantError(t, "one that is handed in ahead of a parent's parent", files, other, idOf(deep), second)
			// Of Bases the order in which both are handed in counts.
			if _, e := base.Bases(files, second, first); e != other {
				t.Errorf("Bases, exchanged: error %d, wanted %d", e, other)
			}
		}
	}
}

// chain answers n commits, each of which is the parent of the next one; the first one has these parents.
func chain(word string, n int, parents ...api.Id) []api.Object {
	var list []api.Object
	for i := range n {
		o := commit(word+strconv.Itoa(i), i, parents...)
		parents = idsOf(o)
		list = append(list, o)
	}
	return list
}

// P22.1, P22.2: as many commits as may be in a row, and one more.
func TestMaxObjectsInARow(t *testing.T) {
	list := chain("row ", api.MaxObjects+1)
	files := own(list...)
	first, most, last := idOf(list[0]), idOf(list[api.MaxObjects-1]), idOf(list[api.MaxObjects])
	back := idsOf(list[:api.MaxObjects]...)
	slices.Reverse(back)
	wantWalk(t, "as many as may be", files, []api.Id{most}, back...)
	wantWalk(t, "as many as may be, one being named twice", files, []api.Id{first, most, first}, back...)
	wantWithin(t, "as many as may be", files, first, most, true)
	wantWithin(t, "a is another one", files, last, most, false)
	wantBases(t, "as many as may be", files, first, most, first)
	wantError(t, "one more", files, api.ErrLong, last)
	wantError(t, "one more", files, api.ErrLong, most, last)
	wantError(t, "one more", files, api.ErrLong, last, first)
	if is, e := base.Within(files, last, last); is || e != api.ErrLong {
		t.Errorf("Within of a commit with too many ancestors, and itself: %t, error %d", is, e)
	}
	if s, e := base.Commit(files, last); e != api.OK || !slices.Equal(s.Parents, []api.Id{most}) {
		t.Errorf("Commit of one with too many ancestors: %v, error %d", s.Parents, e)
	}
	over := chain("row ", api.MaxObjects, api.Id{1})
	wantError(t, "the one more isn't there", own(over...), api.ErrNone, idOf(over[api.MaxObjects-1]))
}

// P22.1: as many commits as may be beside one another, and one more; that one's own errors come ahead of its number.
func TestMaxObjectsInAColumn(t *testing.T) {
	var list []api.Object
	for i := range api.MaxObjects + 1 {
		list = append(list, commit(strconv.Itoa(i), 5))
	}
	errnos, files := wrongs(list...)
	ids := idsOf(list...)
	wantWalk(t, "as many as may be", files, ids[:api.MaxObjects], rising(ids[:api.MaxObjects]...)...)
	wantWalk(t, "as many as may be, twice", files, slices.Repeat(ids[:api.MaxObjects], 2), rising(ids[:api.MaxObjects]...)...)
	wantError(t, "one more", files, api.ErrLong, ids...)
	for wrong, errno := range errnos {
		wantError(t, "one more, with an error of its own", files, errno, append(slices.Clone(ids[:api.MaxObjects]), wrong)...)
		wantError(t, "one behind the one more has an error", files, api.ErrLong, append(slices.Clone(ids), wrong)...)
		wantError(t, "one ahead of the one more has an error", files, errno, slices.Insert(slices.Clone(ids), api.MaxObjects, wrong)...)
	}
}

// P22.2: of Bases the commits of both count together, those in common once.
func TestMaxObjectsOfTwo(t *testing.T) {
	shared := chain("shared ", 96)
	fork := idOf(shared[95])
	left, right := chain("left ", 2000, fork), chain("right ", 2001, fork)
	files := own(slices.Concat(shared, left, right)...)
	wantBases(t, "as many as may be", files, idOf(left[1999]), idOf(right[1999]), fork)
	wantError(t, "one more", files, api.ErrLong, idOf(left[1999]), idOf(right[2000]))
	wantError(t, "one more", files, api.ErrLong, idOf(right[2000]), idOf(left[1999]))
	wantWithin(t, "one side", files, fork, idOf(right[2000]), true)
	wantWithin(t, "the other side", files, idOf(left[1999]), idOf(right[2000]), false)
}
