package index_test

import (
	"cmp"
	"math"
	"math/rand"
	"slices"
	"strings"
	"testing"

	"codicil/api"
	"codicil/index"
	"codicil/names"
)

// Settled tells of each stage that isn't 0, wherever it stands.
func TestSettled(t *testing.T) {
	for _, l := range [][]api.Slot{nil, {}, slots("a"), slots("a", "b", "c")} {
		if !index.Settled(l) {
			t.Errorf("%d slots of the stage 0 aren't settled", len(l))
		}
		for i := range l {
			for _, stage := range []int{-1, 1, 2, 3, 4} {
				l[i].Stage = stage
				if index.Settled(l) {
					t.Errorf("slot %d has the stage %d, and all are settled", i, stage)
				}
			}
			l[i].Stage = 0
		}
	}
}

// P17.1: Find of each slot, of other stages, and of paths that aren't there.
func TestFind(t *testing.T) {
	for _, l := range [][]api.Slot{some(), slots("a"), many(4096)} {
		for i := 0; i < len(l); i += 1 + len(l)/50 {
			wantFound(t, "a slot that is there", l, l[i])
		}
		wantFound(t, "the last one", l, l[len(l)-1])
	}
	l := some()
	for _, s := range l {
		for _, stage := range []int{math.MinInt, -1, 0, 1, 2, 3, 4, math.MaxInt} {
			is := slices.ContainsFunc(l, func(x api.Slot) bool { return x.Path == s.Path && x.Stage == stage })
			if !is {
				wantNone(t, "another stage", l, s.Path, stage, api.ErrNone)
			}
		}
		for _, path := range []string{s.Path + "0", s.Path + "/x", s.Path[:len(s.Path)-1], " " + s.Path} {
			if !slices.ContainsFunc(l, func(x api.Slot) bool { return x.Path == path }) {
				wantNone(t, "another path", l, path, s.Stage, api.ErrNone)
			}
		}
	}
	for _, path := range []string{"", "/", ".git", "\x00", "\xff\xff", long(201), "none"} {
		wantNone(t, "no path", l, path, 0, api.ErrNone)
		wantNone(t, "of no slots", nil, path, 0, api.ErrNone)
	}
}

// P17.1: Find in slots that are not in form, of what is there too.
func TestFindRefused(t *testing.T) {
	for _, f := range faults() {
		l := f.make(some())
		for _, s := range l[:9:9] {
			wantNone(t, f.what, l, s.Path, s.Stage, f.errno)
		}
		wantNone(t, f.what, l, "none", 0, f.errno)
	}
}

// plainSet answers by the chapter's words what Set does.
func plainSet(l []api.Slot, path string, with []api.Slot) ([]api.Slot, api.Errno) {
	made := slices.DeleteFunc(slices.Clone(l), func(s api.Slot) bool { return s.Path == path })
	made = append(made, with...)
	slices.SortStableFunc(made, func(a, b api.Slot) int {
		return cmp.Or(strings.Compare(a.Path, b.Path), cmp.Compare(a.Stage, b.Stage))
	})
	met := []api.Errno{plainCheck(l), plainCheck(made)}
	if !names.Path(path) || slices.ContainsFunc(with, func(s api.Slot) bool { return s.Path != path }) {
		met = append(met, api.ErrName)
	}
	met = slices.DeleteFunc(met, func(e api.Errno) bool { return e == api.OK })
	if len(met) > 0 {
		return nil, slices.Min(met)
	}
	return made, api.OK
}

// wantSet fails unless Set answers these slots, and the chapter's words do.
func wantSet(t *testing.T, what string, l []api.Slot, path string, with, wanted []api.Slot) {
	t.Helper()
	got, e := index.Set(l, path, with)
	if e != api.OK || !slices.Equal(got, wanted) {
		t.Errorf("Set(%.50q), %s: %.300v, error %d, wanted %.300v", path, what, got, e, wanted)
	}
	if model, e := plainSet(l, path, with); e != api.OK || !slices.Equal(model, wanted) {
		t.Errorf("by the chapter's words, %s: %.300v, error %d", what, model, e)
	}
	if e := index.Check(got); e != api.OK {
		t.Errorf("Set(%.50q), %s, answers slots with error %d", path, what, e)
	}
}

// wantNotSet fails unless Set answers that error alone, and the chapter's words do.
func wantNotSet(t *testing.T, what string, l []api.Slot, path string, with []api.Slot, wanted api.Errno) {
	t.Helper()
	if got, e := index.Set(l, path, with); len(got) != 0 || e != wanted {
		t.Errorf("Set(%.50q), %s: %.300v, error %d, wanted error %d alone", path, what, got, e, wanted)
	}
	if _, e := plainSet(l, path, with); e != wanted {
		t.Errorf("by the chapter's words, %s: error %d, wanted %d", what, e, wanted)
	}
}

// P17.1: Set of paths that are there and that aren't, ahead of all others, between them and behind them.
func TestSet(t *testing.T) {
	l := slices.Concat(slots("b"), staged("c", 1, 2, 3), slots("d"))
	for _, with := range [][]int{nil, {0}, {1}, {2}, {3}, {1, 2}, {1, 3}, {2, 3}, {1, 2, 3}} {
		wantSet(t, "of no slots", nil, "b", staged("b", with...), staged("b", with...))
		wantSet(t, "of the one that is there", l[:1], "b", staged("b", with...), staged("b", with...))
		wantSet(t, "ahead of all", l, "a", staged("a", with...), slices.Concat(staged("a", with...), l))
		wantSet(t, "of the first", l, "b", staged("b", with...), slices.Concat(staged("b", with...), l[1:]))
		wantSet(t, "between", l, "b0", staged("b0", with...), slices.Concat(l[:1], staged("b0", with...), l[1:]))
		wantSet(t, "of one between", l, "c", staged("c", with...), slices.Concat(l[:1], staged("c", with...), l[4:]))
		wantSet(t, "of the last", l, "d", staged("d", with...), slices.Concat(l[:4], staged("d", with...)))
		wantSet(t, "behind all", l, "e", staged("e", with...), slices.Concat(l, staged("e", with...)))
		wantSet(t, "in a folder that is a slot, too", l, "c/d", staged("c/d", with...), slices.Concat(l[:4], staged("c/d", with...), l[4:]))
	}
	other := api.Slot{Path: "c", Mode: api.ModeLink, Id: idOf(77), Size: 1<<32 - 1, Time: 1<<32 - 1}
	wantSet(t, "another mode, id, Size and Time", l, "c", []api.Slot{other}, slices.Concat(l[:1], []api.Slot{other}, l[4:]))
}

// P17.1: the slots of with come in order, whatever order they have among themselves.
func TestSetOutOfOrder(t *testing.T) {
	l := slices.Concat(slots("b"), staged("c", 1, 2, 3), slots("d"))
	for _, with := range [][]int{{2, 1}, {3, 1}, {3, 2}, {1, 3, 2}, {2, 1, 3}, {2, 3, 1}, {3, 1, 2}, {3, 2, 1}} {
		rising := slices.Sorted(slices.Values(with))
		wantSet(t, "out of order", l, "c", staged("c", with...), slices.Concat(l[:1], staged("c", rising...), l[4:]))
		wantSet(t, "out of order, ahead of all", l, "a", staged("a", with...), slices.Concat(staged("a", rising...), l))
		wantSet(t, "out of order, behind all", l, "e", staged("e", with...), slices.Concat(l, staged("e", rising...)))
	}
	for _, with := range [][]int{{0, 0}, {1, 1}, {3, 2, 3}, {0, 1}, {1, 0}, {2, 3, 0}, {0, 1, 2, 3}} {
		wantNotSet(t, "stages that no path has", l, "c", staged("c", with...), api.ErrForm)
		wantNotSet(t, "stages that no path has, of no slots", nil, "c", staged("c", with...), api.ErrForm)
	}
}

// P17.1: Set's errors, and the least of them.
func TestSetRefused(t *testing.T) {
	l := some()
	bad := func(path string, change func(s *api.Slot)) []api.Slot {
		s := slot(path, 0)
		change(&s)
		return []api.Slot{s}
	}
	for _, path := range []string{"", "/", "a/", "a//b", ".git", "x/.Git", "a\x00", long(201), letters(101)} {
		wantNotSet(t, "a path that is none", l, path, nil, api.ErrName)
		wantNotSet(t, "a path that is none, of no slots", nil, path, nil, api.ErrName)
		wantNotSet(t, "a slot of a path that is none", l, path, slots(path), api.ErrName)
		wantNotSet(t, "a slot of another path that is none", l, "a", slots(path), api.ErrName)
		wantNotSet(t, "a path that is none, and a mode", l, path, bad(path, func(s *api.Slot) { s.Mode = 0 }), api.ErrName)
		wantNotSet(t, "a path that is none, and a Stage", l, path, bad(path, func(s *api.Slot) { s.Stage = 4 }), api.ErrArg)
	}
	for _, with := range [][]api.Slot{slots("b"), slots("c"), slots("a/b"), slots("b", "a"), slots("a", "c"), slots("A"), slots("a0")} {
		wantNotSet(t, "a slot of another path", l, "a", with, api.ErrName)
		wantNotSet(t, "a slot of another path, of no slots", nil, "a", with, api.ErrName)
	}
	for _, n := range []int{-1, 1 << 32} {
		wantNotSet(t, "a Size", l, "a", bad("a", func(s *api.Slot) { s.Size = n }), api.ErrArg)
		wantNotSet(t, "a Time", l, "a", bad("a", func(s *api.Slot) { s.Time = n }), api.ErrArg)
		wantNotSet(t, "a Time and another path", l, "a", bad("c", func(s *api.Slot) { s.Time = n }), api.ErrArg)
	}
	for _, stage := range []int{-1, 4} {
		wantNotSet(t, "a Stage", l, "a", bad("a", func(s *api.Slot) { s.Stage = stage }), api.ErrArg)
	}
	for _, mode := range []int{0, api.ModeTree, 0o100664} {
		wantNotSet(t, "a mode", l, "a", bad("a", func(s *api.Slot) { s.Mode = mode }), api.ErrForm)
		wantNotSet(t, "a mode and another path", l, "a", bad("c", func(s *api.Slot) { s.Mode = mode }), api.ErrName)
	}
	for _, f := range faults() {
		l := f.make(some())
		wantNotSet(t, f.what, l, "new", slots("new"), f.errno)
		wantNotSet(t, f.what+", the slots at fault being those that go", l, l[0].Path, nil, least(f.errno, l[0].Path))
		wantNotSet(t, f.what+", and a Stage", l, "new", staged("new", 4), api.ErrArg)
		wantNotSet(t, f.what+", and another path", l, "new", slots("c"), min(f.errno, api.ErrName))
	}
}

// least answers of an error and that of a path the one with the least number.
func least(e api.Errno, path string) api.Errno {
	if names.Path(path) {
		return e
	}
	return min(e, api.ErrName)
}

// P17.1: Set whose answer would have too many slots, and just not.
func TestSetMany(t *testing.T) {
	full := many(api.MaxEntries)
	wantSet(t, "one goes", full, full[7].Path, nil, slices.Concat(full[:7], full[8:]))
	wantSet(t, "one in the place of one", full, full[7].Path, slots(full[7].Path), full)
	wantNotSet(t, "one too many", full, "new", slots("new"), api.ErrLong)
	wantNotSet(t, "two in the place of one", full, full[7].Path, staged(full[7].Path, 1, 2), api.ErrLong)
	wantNotSet(t, "one too many, and its mode", full, "new", []api.Slot{{Path: "new"}}, api.ErrLong)
	wantNotSet(t, "one too many, and its Stage", full, "new", staged("new", 4), api.ErrArg)
	wantNotSet(t, "one too many, and its path", full, "", slots(""), api.ErrLong)
	wantSet(t, "the last one", full[:4095], "new", slots("new"), append(slices.Clone(full[:4095]), slot("new", 0)))
	wantNotSet(t, "the last two", full[:4095], "new", staged("new", 2, 3), api.ErrLong)
	wantNotSet(t, "too many, one of which goes", many(4097), full[7].Path, nil, api.ErrLong)
	wantNotSet(t, "many of one path", nil, "a", slices.Repeat(slots("a"), 4097), api.ErrLong)
	wantNotSet(t, "MaxEntries of one path", nil, "a", slices.Repeat(slots("a"), 4096), api.ErrForm)
}

// P17.1: Find and Set by chance, against the chapter's words; what Set answers is found.
func TestSetByChance(t *testing.T) {
	r := rand.New(rand.NewSource(19))
	ends := map[api.Errno]int{}
	for range 20000 {
		l := anySlots(r)
		path := []string{"a", "a.b", "a/b", "a1", "b", "b/c", "zzz", "", ".git", long(200), long(201)}[r.Intn(11)]
		var with []api.Slot
		for _, stage := range [][]int{nil, {0}, {0}, {2, 3}, {3, 1}, {1, 3, 2}, {0, 1}, {2, 2}, {4}}[r.Intn(9)] {
			s := slot(path, stage)
			if r.Intn(15) == 0 {
				s = slot("b", stage)
			}
			if r.Intn(15) == 0 {
				s.Mode = api.ModeTree
			}
			with = append(with, s)
		}
		wanted, e := plainSet(l, path, with)
		ends[e]++
		if e != api.OK {
			wantNotSet(t, "by chance", l, path, with, e)
			continue
		}
		wantSet(t, "by chance", l, path, with, wanted)
		for _, s := range wanted {
			wantFound(t, "by chance", wanted, s)
		}
	}
	for _, e := range []api.Errno{api.OK, api.ErrArg, api.ErrName, api.ErrForm} {
		if ends[e] < 500 {
			t.Errorf("too little was tried: %v", ends)
		}
	}
}
