package rename_test

import (
	"maps"
	"math/rand"
	"slices"
	"testing"

	"codicil/api"
	"codicil/rename"
)

// differs, went and came answer a change.
func differs(old, new api.Slot) rename.Change {
	return rename.Change{Path: old.Path, Old: old, New: new}
}

func went(s api.Slot) rename.Change { return rename.Change{Path: s.Path, Old: s} }

func came(s api.Slot) rename.Change { return rename.Change{Path: s.Path, New: s} }

// with answers a slot that a function changed.
func with(s api.Slot, change func(s *api.Slot)) api.Slot {
	change(&s)
	return s
}

// P20.1: equal lists, empty ones, and paths that are in one alone.
func TestChanges(t *testing.T) {
	l := slots("a", "1", "a.b", "2", "a/b", "3", "b", "4")
	for _, none := range [][]api.Slot{nil, {}} {
		wantChanges(t, "of no slots", none, nil)
		wantChanges(t, "of no slots", none, []api.Slot{})
		wantChanges(t, "all came", none, l, came(l[0]), came(l[1]), came(l[2]), came(l[3]))
		wantChanges(t, "all went", l, none, went(l[0]), went(l[1]), went(l[2]), went(l[3]))
	}
	wantChanges(t, "of equal lists", l, slices.Clone(l))
	wantChanges(t, "the first went", l, l[1:], went(l[0]))
	wantChanges(t, "the last went", l, l[:3], went(l[3]))
	wantChanges(t, "the first came", l[1:], l, came(l[0]))
	wantChanges(t, "the last came", l[:3], l, came(l[3]))
	wantChanges(t, "others", l[:2], l[2:], went(l[0]), went(l[1]), came(l[2]), came(l[3]))
	wantChanges(t, "others", l[2:], l[:2], came(l[0]), came(l[1]), went(l[2]), went(l[3]))
	wantChanges(t, "by turns", []api.Slot{l[0], l[2]}, []api.Slot{l[1], l[3]}, went(l[0]), came(l[1]), went(l[2]), came(l[3]))
	x, y := slot("a/b", "1"), slot("c", "1")
	wantChanges(t, "a file that moved", []api.Slot{x}, []api.Slot{y}, went(x), came(y))
	wantChanges(t, "a file that became a folder", slots("a", "1"), slots("a/b", "1"), went(slot("a", "1")), came(slot("a/b", "1")))
}

// P20.1: another mode or another id is a change; another Size or Time alone is none, but is told beside one.
func TestChangesOfOne(t *testing.T) {
	a, s, z := slot("a", "1"), slot("m", "2"), slot("z", "3")
	mode := with(s, func(s *api.Slot) { s.Mode = api.ModeExec })
	link := with(s, func(s *api.Slot) { s.Mode = api.ModeLink })
	id := with(s, func(s *api.Slot) { s.Id[31]++ })
	size := with(s, func(s *api.Slot) { s.Size = 1<<32 - 1 })
	time := with(s, func(s *api.Slot) { s.Time++ })
	all := with(s, func(s *api.Slot) { s.Mode, s.Id, s.Size, s.Time = api.ModeLink, api.Id{}, 0, 0 })
	for what, other := range map[string]api.Slot{"mode": mode, "link": link, "id": id, "all": all} {
		wantChanges(t, "another "+what, []api.Slot{s}, []api.Slot{other}, differs(s, other))
		wantChanges(t, "another "+what, []api.Slot{a, other, z}, []api.Slot{a, s, z}, differs(other, s))
		wantChanges(t, "another "+what+", of both lists' only common path", []api.Slot{a, s}, []api.Slot{other, z}, went(a), differs(s, other), came(z))
	}
	for what, other := range map[string]api.Slot{"size": size, "time": time} {
		wantChanges(t, "another "+what, []api.Slot{s}, []api.Slot{other})
		wantChanges(t, "another "+what, []api.Slot{a, other, z}, []api.Slot{a, s}, went(z))
	}
	zero := api.Slot{Path: "m", Mode: api.ModeFile}
	wantChanges(t, "the zero id", []api.Slot{zero}, []api.Slot{zero})
	wantChanges(t, "the zero id came", nil, []api.Slot{zero}, came(zero))
}

// P20.1: slots by chance, against the chapter's words.
func TestChangesByChance(t *testing.T) {
	r := rand.New(rand.NewSource(201))
	for range 3000 {
		a, b := anySlots(r), anySlots(r)
		old, new := byPath(a), byPath(b)
		paths := maps.Clone(old)
		maps.Copy(paths, new)
		var wanted []rename.Change
		for _, path := range slices.Sorted(maps.Keys(paths)) {
			x, inA := old[path]
			y, inB := new[path]
			if inA != inB || x.Mode != y.Mode || x.Id != y.Id {
				wanted = append(wanted, rename.Change{Path: path, Old: x, New: y})
			}
		}
		wantChanges(t, "by chance", a, b, wanted...)
	}
}

// anySlots answers slots by chance, of few paths, modes and ids.
func anySlots(r *rand.Rand) []api.Slot {
	var l []api.Slot
	for _, path := range []string{"a", "a-b", "a.b", "a/b", "a/c", "a0", "b", "\xff"} {
		if r.Intn(2) == 0 {
			mode := []int{api.ModeFile, api.ModeFile, api.ModeExec, api.ModeLink}[r.Intn(4)]
			l = append(l, api.Slot{Path: path, Mode: mode, Id: api.Id{byte(r.Intn(3))}, Size: r.Intn(2), Time: r.Intn(2)})
		}
	}
	return l
}

// byPath answers slots by their paths.
func byPath(l []api.Slot) map[string]api.Slot {
	all := map[string]api.Slot{}
	for _, s := range l {
		all[s.Path] = s
	}
	return all
}

// P20.1: as many slots as may be.
func TestChangesOfMany(t *testing.T) {
	a, b := many("a", api.MaxEntries), many("b", api.MaxEntries)
	wantChanges(t, "MaxEntries slots", a, slices.Clone(a))
	var wanted []rename.Change
	for _, s := range a {
		wanted = append(wanted, went(s))
	}
	for _, s := range b {
		wanted = append(wanted, came(s))
	}
	wantChanges(t, "MaxEntries slots that went and came", a, b, wanted...)
}

// P20.1: slots that are not in form, in the first list, in the second and in both: the first one's error counts.
func TestChangesRefused(t *testing.T) {
	good := slots("b", "1", "c", "2")
	for _, f := range faults() {
		bad := f.make(good)
		wantNoChanges(t, f.what+" in the first", bad, good, f.errno)
		wantNoChanges(t, f.what+" in the second", good, bad, f.errno)
		wantNoChanges(t, f.what+" in both", bad, bad, f.errno)
		wantNoChanges(t, f.what+", and no slots", bad, nil, f.errno)
		wantNoChanges(t, f.what+", and no slots", nil, bad, f.errno)
		for _, other := range faults() {
			wantNoChanges(t, f.what+", then "+other.what, bad, other.make(good), f.errno)
		}
	}
}

// P20.1: a stage that isn't 0 and something else in one list: index.Check's error comes first.
func TestChangesStageAndMore(t *testing.T) {
	stage := func(s *api.Slot) { s.Stage = 2 }
	for what, x := range map[string]struct {
		change func(s *api.Slot)
		errno  api.Errno
	}{
		"a Size":  {func(s *api.Slot) { s.Size = -1 }, api.ErrArg},
		"no path": {func(s *api.Slot) { s.Path = "n/" }, api.ErrName},
		"no mode": {func(s *api.Slot) { s.Mode = 7 }, api.ErrForm},
	} {
		bad := []api.Slot{slot("m", ""), with(slot("n", ""), x.change), with(slot("o", ""), stage)}
		wantNoChanges(t, "a stage, and "+what, bad, nil, x.errno)
		wantNoChanges(t, "a stage, and "+what, nil, bad, x.errno)
		wantNoPairs(t, "a stage, and "+what, nil, bad, nil, 50, x.errno)
		wantNoPairs(t, "a stage, and "+what, nil, nil, bad, 50, x.errno)
	}
	all := []api.Slot{with(slot("m", ""), func(s *api.Slot) { s.Stage = 1 }), with(slot("m", ""), stage)}
	wantNoChanges(t, "two stages", all, nil, api.ErrClash)
	both := append(slots("m", ""), all...)
	wantNoChanges(t, "the stage 0 and others", both, nil, api.ErrForm)
}
