package index_test

import (
	"encoding/hex"
	"math"
	"math/rand"
	"slices"
	"testing"

	"codicil/api"
	"codicil/index"
)

// P17.1: the chapter's example, and the bytes of one slot written out.
func TestExample(t *testing.T) {
	p, e := index.Put(nil)
	if e != api.OK || len(p) != 44 || hex.EncodeToString(p[:12]) != "444952430000000200000000" {
		t.Errorf("Put of none: %x, error %d", p, e)
	}
	wantParsed(t, "none", p, nil)
	one := api.Slot{Path: "a", Stage: 2, Mode: api.ModeExec, Id: api.Id{0xab, 31: 0xcd}, Size: 0x01020304, Time: 0xf5f6f7f8}
	p, e = index.Put([]api.Slot{one})
	digits := "444952430000000200000001" + "0000000000000000" + "f5f6f7f8" + "000000000000000000000000" + "000081ed" + "0000000000000000" + "01020304" +
		"ab000000000000000000000000000000000000000000000000000000000000cd" + "2001" + "61" + "0000000000"
	if e != api.OK || len(p) != 12+80+32 || hex.EncodeToString(p[:92]) != digits {
		t.Errorf("Put of one: %x, error %d, wanted %s and the sum", p, e, digits)
	}
	wantParsed(t, "one", p, []api.Slot{one})
	p[len(p)-1]++
	wantUnparsed(t, "with the last byte turned", p, api.ErrSum)
}

// P17.1, P17.2: ordinary slots, and those with all that slots may have.
func TestPut(t *testing.T) {
	wantPut(t, "none", nil)
	wantPut(t, "an empty list", []api.Slot{})
	wantPut(t, "one", slots("a"))
	wantPut(t, "some", some())
	wantPut(t, "a folder and what is in it", slots("a", "a.b", "a/b", "a/b/c", "a0"))
	for n := 1; n <= 200; n++ {
		// So 1 to 8 bytes 0 stand behind the path, each count of them many times.
		wantPut(t, "a path of "+long(n), slots(long(n)))
		wantPut(t, "two paths, one of "+long(n), slots(long(n), "b"))
	}
	wantPut(t, "MaxEntries slots", many(api.MaxEntries))
}

// P17.1: the edges of numbers, modes, stages and lists, on both sides.
func TestEdges(t *testing.T) {
	for _, i := range []int{0, 4, len(some()) - 1} {
		for n, fits := range map[int]bool{math.MinInt: false, -1 << 32: false, -1: false, 0: true, 1: true, 1<<32 - 1: true, 1 << 32: false, 1<<32 + 1: false, math.MaxInt: false} {
			wantEdge(t, "a Size", some(), i, fits, api.ErrArg, func(s *api.Slot) { s.Size = n })
			wantEdge(t, "a Time", some(), i, fits, api.ErrArg, func(s *api.Slot) { s.Time = n })
		}
		for n, fits := range map[int]bool{math.MinInt: false, -1: false, 0: true, 1: true, 2: true, 3: true, 4: false, 5: false, 1 << 32: false, math.MaxInt: false} {
			wantEdge(t, "a Stage", some(), i, fits, api.ErrArg, func(s *api.Slot) { s.Stage = n })
		}
		for mode, is := range map[int]bool{api.ModeFile: true, api.ModeExec: true, api.ModeLink: true, api.ModeTree: false, 0: false, -1: false, 0o100664: false, 0o644: false, 0o160000: false, api.ModeFile + 1<<32: false, math.MinInt: false} {
			wantEdge(t, "a Mode", some(), i, is, api.ErrForm, func(s *api.Slot) { s.Mode = mode })
		}
	}
	for _, path := range []string{"", "/", "a/", "/a", "a//b", ".", "a/../b", ".git", "a/.GIT/b", "a\x00", "\x00", long(201), letters(101), "a/" + letters(101), letters(5000), letters(4096 + 1)} {
		wantRefused(t, "the one path "+path, slots(path), api.ErrName)
		wantRefused(t, "a last path "+path, append(slots("\x01"), slot(path, 0)), api.ErrName)
		wantRefused(t, "a first path "+path, append(slots(path), slot("\xff", 0)), api.ErrName)
	}
	wantRefused(t, "MaxEntries slots and one more", many(api.MaxEntries+1), api.ErrLong)
	wantRefused(t, "very many slots", many(3*api.MaxEntries), api.ErrLong)
}

// wantEdge fails unless a list with slot i changed is put, or refused with that error.
func wantEdge(t *testing.T, what string, l []api.Slot, i int, fits bool, errno api.Errno, change func(s *api.Slot)) {
	t.Helper()
	change(&l[i])
	if fits {
		wantPut(t, what, l)
		return
	}
	wantRefused(t, what, l, errno)
}

// P17.1: how slots may follow one another.
func TestOrder(t *testing.T) {
	for _, stages := range [][]int{{0}, {1}, {2}, {3}, {1, 2}, {1, 3}, {2, 3}, {1, 2, 3}} {
		wantPut(t, "stages that rise", staged("a", stages...))
		wantPut(t, "stages that rise between others", slices.Concat(slots("A"), staged("a", stages...), staged("b", stages...)))
	}
	for _, stages := range [][]int{
		{0, 0}, {1, 1}, {3, 3}, {2, 1}, {3, 1}, {3, 2}, {1, 2, 2}, {1, 3, 2}, {3, 2, 1}, {1, 2, 3, 3}, {1, 2, 3, 1},
		{0, 1}, {0, 2}, {0, 3}, {1, 0}, {2, 0}, {3, 0}, {0, 1, 2, 3}, {1, 2, 3, 0}, {1, 0, 2},
	} {
		wantRefused(t, "stages of one path", staged("a", stages...), api.ErrForm)
		wantRefused(t, "stages of one path between others", slices.Concat(slots("A"), staged("a", stages...), slots("b")), api.ErrForm)
	}
	for _, paths := range [][]string{{"b", "a"}, {"a", "c", "b"}, {"a/b", "a.b"}, {"a0", "a/b"}, {"ab", "a"}, {"a/b", "a"}, {"\xff", "a"}, {"a", "b", "a"}, {"a", "a"}} {
		wantRefused(t, "paths that fall", slots(paths...), api.ErrForm)
	}
	wantRefused(t, "stages of one path with another path between", []api.Slot{slot("a", 1), slot("b", 0), slot("a", 2)}, api.ErrForm)
	wantRefused(t, "a stage that rises, a path that falls", []api.Slot{slot("b", 1), slot("a", 2)}, api.ErrForm)
	wantPut(t, "a path that rises, a stage that falls", []api.Slot{slot("a", 3), slot("b", 1), slot("c", 0)})
}

// staged answers slots of one path at these stages.
func staged(path string, stages ...int) []api.Slot {
	var l []api.Slot
	for _, stage := range stages {
		l = append(l, slot(path, stage))
	}
	return l
}

// fault is a change of slots that makes them ones that are refused.
type fault struct {
	what  string
	errno api.Errno
	make  func(l []api.Slot) []api.Slot
}

// faults answers faults of each error, those of the least number first.
func faults() []fault {
	at := func(what string, errno api.Errno, i int, change func(s *api.Slot)) fault {
		return fault{what, errno, func(l []api.Slot) []api.Slot { change(&l[i]); return l }}
	}
	return []fault{
		at("a Stage of 4", api.ErrArg, 0, func(s *api.Slot) { s.Stage = 4 }),
		at("a last Stage of -1", api.ErrArg, 8, func(s *api.Slot) { s.Stage = -1 }),
		at("a Size of -1", api.ErrArg, 0, func(s *api.Slot) { s.Size = -1 }),
		at("a last Time of 2^32", api.ErrArg, 8, func(s *api.Slot) { s.Time = 1 << 32 }),
		{"too many slots", api.ErrLong, func(l []api.Slot) []api.Slot { return append(l, many(api.MaxEntries)...) }},
		{"too many slots in order", api.ErrLong, func(l []api.Slot) []api.Slot { return append(l[:1:1], many(api.MaxEntries)...) }},
		at("no path", api.ErrName, 0, func(s *api.Slot) { s.Path = "" }),
		at("a path with .git", api.ErrName, 5, func(s *api.Slot) { s.Path = "a/.git" }),
		at("a mode that is none", api.ErrForm, 0, func(s *api.Slot) { s.Mode = 0 }),
		at("the mode of trees", api.ErrForm, 5, func(s *api.Slot) { s.Mode = api.ModeTree }),
		at("a path that falls", api.ErrForm, 5, func(s *api.Slot) { s.Path = "a-b" }),
		at("a stage 0 beside others", api.ErrForm, 1, func(s *api.Slot) { s.Stage = 0 }),
	}
}

// P17.1, 'The order of errors': of two errors at one time the one with the least number.
func TestTwoErrors(t *testing.T) {
	for i, f := range faults() {
		wantRefused(t, f.what, f.make(some()), f.errno)
		for _, g := range faults()[i+1:] {
			// The one that counts is made last, so that it stands whatever the other one did.
			wantRefused(t, f.what+", and "+g.what, f.make(g.make(some())), f.errno)
		}
	}
}

// P17.1, P17.2: slots by chance, against the chapter's words.
func TestPutByChance(t *testing.T) {
	r := rand.New(rand.NewSource(17))
	ends := map[api.Errno]int{}
	for range 20000 {
		l := anySlots(r)
		e := plainCheck(l)
		ends[e]++
		if e == api.OK {
			wantPut(t, "by chance", l)
		} else {
			wantRefused(t, "by chance", l, e)
		}
	}
	for _, e := range []api.Errno{api.OK, api.ErrArg, api.ErrName, api.ErrForm} {
		if ends[e] < 500 {
			t.Errorf("too little was tried: %v", ends)
		}
	}
}
