package treemerge_test

import (
	"fmt"
	"slices"
	"strings"
	"testing"

	"codicil/api"
	"codicil/loose"
	"codicil/odb"
	"codicil/treemerge"
)

// fault is something by which slots can't be merged; list has it.
type fault struct {
	what  string
	list  []api.Slot
	errno api.Errno
}

// faults answers one or several of each error.
func faults() []fault {
	with := func(change func(s *api.Slot)) []api.Slot {
		l := told{"b 1", "z 2"}.slots()
		change(&l[1])
		return l
	}
	many := make([]api.Slot, api.MaxEntries+1)
	for i := range many {
		many[i] = api.Slot{Path: fmt.Sprintf("m/%04d", i), Mode: api.ModeFile}
	}
	return []fault{
		{"a Stage of 4", with(func(s *api.Slot) { s.Stage = 4 }), api.ErrArg},
		{"a Stage of -1", with(func(s *api.Slot) { s.Stage = -1 }), api.ErrArg},
		{"a Size", with(func(s *api.Slot) { s.Size = 1 << 32 }), api.ErrArg},
		{"a Time", with(func(s *api.Slot) { s.Time = -1 }), api.ErrArg},
		{"too many", many, api.ErrLong},
		{"no path", with(func(s *api.Slot) { s.Path = "z//z" }), api.ErrName},
		{"an empty path", []api.Slot{{Mode: api.ModeFile}}, api.ErrName},
		{"no mode", with(func(s *api.Slot) { s.Mode = 0 }), api.ErrForm},
		{"a tree's mode", with(func(s *api.Slot) { s.Mode = api.ModeTree }), api.ErrForm},
		{"they don't rise", told{"b 1", "a 2"}.slots(), api.ErrForm},
		{"one twice", told{"b 1", "b 1"}.slots(), api.ErrForm},
		{"the stage 0 and another one", told{"b 1", "2:b 1"}.slots(), api.ErrForm},
		{"the stage 1", told{"b 1", "1:z 2"}.slots(), api.ErrClash},
		{"the stage 2", told{"2:b 1", "z 2"}.slots(), api.ErrClash},
		{"the stages 1, 2 and 3", told{"1:b 1", "2:b 2", "3:b 3"}.slots(), api.ErrClash},
		{"a stage, and no mode", append(told{"1:b 1"}.slots(), api.Slot{Path: "c"}), api.ErrForm},
	}
}

// P23.1: slots that can't be merged, in base, in ours, in theirs and in several: the first list's error counts, ahead of all
// others.
func TestWrongSlots(t *testing.T) {
	good := told{"b 1", "c 2"}.slots()
	unordered := []api.File{{Path: "z"}, {Path: "a"}}
	for _, f := range faults() {
		for _, files := range [][]api.File{nil, own(blob("1"), blob("2")), unordered} {
			for _, l := range [][]api.Slot{good, nil} {
				wantError(t, f.what+" in base", files, f.list, l, l, f.errno)
				wantError(t, f.what+" in ours", files, l, f.list, l, f.errno)
				wantError(t, f.what+" in theirs", files, l, l, f.list, f.errno)
			}
			wantError(t, f.what+" in all", files, f.list, f.list, f.list, f.errno)
		}
		if r, e := treemerge.Merge(nil, good, good, f.list, [2]string{"\n", ""}); e != f.errno || len(r.Slots) != 0 {
			t.Errorf("%s, and a label: error %d", f.what, e)
		}
		for _, other := range faults() {
			wantError(t, f.what+" in base, "+other.what+" in ours", nil, f.list, other.list, good, f.errno)
			wantError(t, f.what+" in base, "+other.what+" in theirs", nil, f.list, good, other.list, f.errno)
			wantError(t, f.what+" in ours, "+other.what+" in theirs", nil, good, f.list, other.list, f.errno)
		}
	}
}

// P23.1: labels that merge.Three refuses, whether something clashes or not, ahead of all errors but those of slots.
func TestWrongLabels(t *testing.T) {
	x, y, z := told{"x 1\n"}.slots(), told{"x 2\n"}.slots(), told{"x 3\n"}.slots()
	files := own(blob("1\n"), blob("2\n"), blob("3\n"))
	for _, bad := range []string{"\n", "\x00", "a\nb", "a\x00", strings.Repeat("a", 101)} {
		for _, labels := range [][2]string{{bad, "b"}, {"a", bad}, {bad, bad}} {
			for what, lists := range map[string][3][]api.Slot{"a clash": {x, y, z}, "a change": {x, x, y}, "nothing": {}, "a folder": {nil, x, told{"x/y 1\n"}.slots()}, "one that went": {x, nil, y}} {
				for _, some := range [][]api.File{files, nil, {{Path: ""}}} {
					if r, e := treemerge.Merge(some, lists[0], lists[1], lists[2], labels); e != api.ErrName || len(r.Slots)+len(r.Work)+len(r.Objects) != 0 {
						t.Errorf("a label %q beside %s: error %d, %s", labels, what, e, brief(r))
					}
				}
			}
		}
	}
}

// P23.1: which label stands where, and what labels may be.
func TestLabels(t *testing.T) {
	files := own(blob("1\n"), blob("2\n"), blob("3\n"))
	for _, labels := range [][2]string{{"HEAD", "b"}, {"", ""}, {strings.Repeat("a", 100), "\xff"}} {
		r, e := treemerge.Merge(files, told{"x 1\n"}.slots(), told{"x 2\n"}.slots(), told{"x 3\n"}.slots(), labels)
		wanted := result(told{"1:x 1\n", "2:x 2\n", "3:x 3\n"}, told{"x <<<<<<< " + labels[0] + "\n2\n||||||| base\n1\n=======\n3\n>>>>>>> " + labels[1] + "\n"})
		if e != api.OK || !equal(r, wanted) {
			t.Errorf("labels %q: error %d, %s", labels, e, brief(r))
		}
	}
}

// damaged answers files with the blob 1, and ids of objects that can't be got, or are no blobs, with their errors.
func damaged(t *testing.T) ([]api.File, map[api.Errno]api.Id) {
	t.Helper()
	tree, long := api.Object{Kind: api.Tree}, blob(strings.Repeat("x\n", api.MaxLines+1))
	files := own(tree, long, blob("1"), blob("short"), blob("form"), blob("sum"))
	change := func(text string, data []byte) {
		at := slices.IndexFunc(files, func(f api.File) bool { return f.Path == loose.Place(idOf(blob(text))) })
		files[at].Data = data
	}
	change("short", own(blob("short"))[0].Data[:1])
	change("form", append(own(blob("form"))[0].Data, 0))
	change("sum", own(blob("another"))[0].Data)
	ids := map[api.Errno]api.Id{
		api.ErrShort: idOf(blob("short")), api.ErrForm: idOf(blob("form")), api.ErrSum: idOf(blob("sum")), api.ErrNone: idOf(blob("none")), api.ErrType: idOf(tree),
	}
	for errno, id := range ids {
		if _, e := odb.Get(files, id); e != errno && errno != api.ErrType {
			t.Fatalf("Get: error %d, wanted %d", e, errno)
		}
	}
	ids[api.ErrLong] = idOf(long)
	return files, ids
}

// file and link answer a slot with an id.
func file(path string, id api.Id) api.Slot {
	return api.Slot{Path: path, Mode: api.ModeFile, Id: id}
}

func link(path string, id api.Id) api.Slot {
	return api.Slot{Path: path, Mode: api.ModeLink, Id: id}
}

// P23.1: errors of rename.Pairs, of ours, then of theirs, ahead of those of paths that are merged.
func TestErrorsOfPairs(t *testing.T) {
	files, ids := damaged(t)
	for errno, id := range ids {
		if errno == api.ErrLong {
			continue
		}
		one := []api.Slot{file("m", id)}
		wantError(t, "came in ours", files, nil, one, nil, errno)
		wantError(t, "came in theirs", files, nil, nil, one, errno)
		wantError(t, "came in both", files, nil, one, one, errno)
		wantError(t, "went in ours", files, one, nil, one, errno)
		wantError(t, "went in theirs", files, one, one, nil, errno)
		wantError(t, "went in both", files, one, nil, nil, errno)
		for other, second := range ids {
			if other == api.ErrLong {
				continue
			}
			wantError(t, "came in ours, another one in theirs", files, nil, []api.Slot{file("z", id)}, []api.Slot{file("a", second)}, errno)
			wantError(t, "came in ours, another one of its path in theirs", files, nil, []api.Slot{file("a", id)}, []api.Slot{file("a", second)}, errno)
			// The path a would be merged ahead of z.
			a := []api.Slot{file("a", second)}
			wantError(t, "came in theirs, another one is merged", files, a, told{"a 1"}.slots(), []api.Slot{file("a", api.Id{1}), file("z", id)}, errno)
		}
	}
	// Too many lines are no error of Pairs, and what nobody merges isn't too long.
	long := []api.Slot{file("m", ids[api.ErrLong])}
	wantIs(t, "came, with many lines", files, nil, long, nil, treemerge.Result{Slots: long})
	wantIs(t, "moved, with many lines", files, long, []api.Slot{file("n", long[0].Id)}, long, treemerge.Result{Slots: []api.Slot{file("n", long[0].Id)}})
}

// P23.1: a blob that is read and isn't there, is no blob, or has too many lines: base's, ours, theirs, in this order.
func TestErrorsOfTexts(t *testing.T) {
	files, ids := damaged(t)
	good := idOf(blob("1"))
	for errno, id := range ids {
		bad, one, another := []api.Slot{file("m", id)}, []api.Slot{file("m", good)}, []api.Slot{{Path: "m", Mode: api.ModeExec, Id: good}}
		wantError(t, "base's", files, bad, one, another, errno)
		wantError(t, "base's, modes exchanged", files, bad, another, one, errno)
		wantError(t, "ours", files, one, bad, another, errno)
		wantError(t, "theirs", files, one, another, bad, errno)
		wantError(t, "ours, and no base", files, nil, bad, another, errno)
		wantError(t, "theirs, and no base", files, nil, another, bad, errno)
		for other, second := range ids {
			if errno == api.ErrLong || other == api.ErrLong {
				continue
			}
			if errno != other {
				wantError(t, "base's, then ours", files, []api.Slot{file("m", id)}, []api.Slot{file("m", second)}, []api.Slot{file("m", good)}, errno)
				wantError(t, "ours, then theirs", files, []api.Slot{file("m", good)}, []api.Slot{file("m", id)}, []api.Slot{file("m", second)}, errno)
				wantError(t, "base's, then theirs", files, []api.Slot{file("m", id)}, []api.Slot{file("m", good)}, []api.Slot{file("m", second)}, errno)
			}
		}
		if errno != api.ErrLong {
			// An object that can't be got comes ahead of a text that is too long, whichever side has that.
			wantError(t, "theirs, base's is too long", files, []api.Slot{file("m", ids[api.ErrLong])}, []api.Slot{file("m", good)}, []api.Slot{file("m", id)}, errno)
			wantError(t, "ours, theirs is too long", files, []api.Slot{file("m", good)}, []api.Slot{file("m", id)}, []api.Slot{file("m", ids[api.ErrLong])}, errno)
		}
	}
}

// P23.1: of a path that clashes without its texts being merged one blob alone is read: ours, or, if there is none, theirs.
func TestErrorsOfWhatIsLeft(t *testing.T) {
	files, ids := damaged(t)
	good, one := idOf(blob("1")), file("m", idOf(blob("1")))
	for errno, id := range ids {
		wanted := treemerge.Result{Work: []api.File{{Path: "m", Data: []byte("1")}}}
		stages := func(l ...api.Slot) []api.Slot {
			for i := range l {
				l[i].Stage = i + 1
			}
			return l
		}
		if errno != api.ErrLong {
			wantError(t, "a link of ours", files, []api.Slot{one}, []api.Slot{link("m", id)}, []api.Slot{file("m", ids[api.ErrLong])}, errno)
			wantError(t, "ours beside a link", files, []api.Slot{one}, []api.Slot{file("m", id)}, []api.Slot{link("m", good)}, errno)
		}
		wanted.Slots = stages(file("m", id), one, link("m", good))
		wantIs(t, "base's isn't read beside a link", files, []api.Slot{file("m", id)}, []api.Slot{one}, []api.Slot{link("m", good)}, wanted)
		wanted.Slots = stages(file("m", api.Id{7}), link("m", good), file("m", id))
		wantIs(t, "theirs isn't read beside a link", files, []api.Slot{file("m", api.Id{7})}, []api.Slot{link("m", good)}, []api.Slot{file("m", id)}, wanted)
		wanted.Slots = stages(file("m", api.Id{7}), one, link("m", id))
		wantIs(t, "a link of theirs isn't read", files, []api.Slot{file("m", api.Id{7})}, []api.Slot{one}, []api.Slot{link("m", id)}, wanted)
	}
	// A text that is only told may have any number of lines.
	long := strings.Repeat("x\n", api.MaxLines+1)
	want(t, "too many lines of a link", told{"m 1"}, told{"m@ " + long}, told{"m 2"}, result(told{"1:m 1", "2:m@ " + long, "3:m 2"}, told{"m " + long}))
	want(t, "too many lines of what is left", told{"m 1"}, nil, told{"m " + long}, result(told{"1:m 1", "3:m " + long}, told{"m " + long}))
	want(t, "too many lines of what is left", told{"m 1"}, told{"m " + long}, nil, result(told{"1:m 1", "2:m " + long}, told{"m " + long}))
}

// P23.1: texts that are too long, also where two slots have one id; what comes out may be too long as well.
func TestTooLong(t *testing.T) {
	long, most := strings.Repeat("x\n", api.MaxLines+1), strings.Repeat("x\n", api.MaxLines)
	refused := func(what string, base, ours, theirs told) {
		t.Helper()
		files := own(blobsOf(base, ours, theirs)...)
		wantError(t, what, files, base.slots(), ours.slots(), theirs.slots(), api.ErrLong)
		wantError(t, what+", exchanged", files, base.slots(), theirs.slots(), ours.slots(), api.ErrLong)
		wantPlain(t, what, files, base.slots(), ours.slots(), theirs.slots())
	}
	refused("base", told{"m " + long}, told{"m 1\n"}, told{"m 2\n"})
	refused("ours", told{"m 1\n"}, told{"m " + long}, told{"m 2\n"})
	refused("one id of base and ours", told{"m " + long}, told{"m* " + long}, told{"m 1\n"})
	refused("one id of both sides", told{"m 1\n"}, told{"m* " + long}, told{"m " + long})
	refused("one id of all", told{"m@ " + long}, told{"m* " + long}, told{"m " + long})
	refused("one id, and no base", nil, told{"m* " + long}, told{"m " + long})
	want(t, "as many lines as may be", told{"m 1\n"}, told{"m* 1\n"}, told{"m " + most}, result(told{"m* " + most}, nil, most))
	ahead := strings.Repeat("y", api.MaxData/2) + "\n1\n"
	behind := strings.Repeat("z", api.MaxData-len(ahead)-1)
	want(t, "what comes out is as long as may be", told{"m 1\n"}, told{"m " + ahead}, told{"m 1\n" + behind + "\n"},
		result(told{"m " + ahead + behind + "\n"}, nil, ahead+behind+"\n"))
	refused("what comes out is a byte longer", told{"m 1\n"}, told{"m " + ahead}, told{"m 1\n" + behind + "z\n"})
	refused("what comes out of a clash", told{"m 1\n"}, told{"m " + ahead[:len(ahead)-2]}, told{"m " + behind})
}

// P23.1: of several errors the first one by paths: of blobs, of Three, and ErrExists behind all of them.
func TestFirstError(t *testing.T) {
	files, ids := damaged(t)
	good := idOf(blob("1"))
	for errno, id := range ids {
		for other, second := range ids {
			base := []api.Slot{file("a", good), file("b", good), file("c", good), file("d", good)}
			ours, theirs := slices.Clone(base), slices.Clone(base)
			// a isn't read, b and c are.
			ours[0].Id = ids[api.ErrNone]
			for i, x := range []api.Id{id, second} {
				ours[i+1].Mode, theirs[i+1].Id = api.ModeExec, x
			}
			wantError(t, fmt.Sprintf("%d, then %d", errno, other), files, base, ours, theirs, errno)
			wantError(t, fmt.Sprintf("%d, then %d, exchanged", errno, other), files, base, theirs, ours, errno)
		}
		base := []api.Slot{file("a", good), file("a/b", good), file("z", good)}
		ours, theirs := slices.Clone(base), slices.Clone(base)
		ours[2].Mode, theirs[2].Id = api.ModeExec, id
		wantError(t, "beside a folder", files, base, ours, theirs, errno)
	}
	// A path that a file moved to stands where its new name does.
	base := []api.Slot{file("b", good), file("z", good)}
	ours := []api.Slot{file("b", ids[api.ErrType]), file("a", good)}
	slices.Reverse(ours)
	theirs := []api.Slot{file("b", ids[api.ErrNone]), file("z", ids[api.ErrSum])}
	ours[0].Mode = api.ModeExec
	wantError(t, "a path that a file moved to", files, base, ours, theirs, api.ErrSum)
}

// P23.1: files that are not in order have an error where a blob is got, and only there.
func TestFilesOutOfOrder(t *testing.T) {
	good := own(blob("1"))[0]
	x, y, z := told{"m 1"}, told{"m 2"}, told{"m 3"}
	for what, files := range map[string][]api.File{
		"files that fall": {{Path: "z"}, good}, "one path twice": {good, good}, "an empty path": {{Path: ""}, good}, "a path with ..": {good, {Path: "x/../y"}},
	} {
		wantError(t, what+", came", files, nil, x.slots(), nil, api.ErrForm)
		wantError(t, what+", went", files, x.slots(), x.slots(), nil, api.ErrForm)
		wantError(t, what+", merged", files, x.slots(), y.slots(), z.slots(), api.ErrForm)
		wantError(t, what+", a link", files, x.slots(), told{"m@ 1"}.slots(), z.slots(), api.ErrForm)
		wantIs(t, what+", nothing is got", files, nil, nil, nil, result(nil, nil))
		wantIs(t, what+", nothing is got", files, x.slots(), y.slots(), x.slots(), result(y, nil))
		wantIs(t, what+", nothing is got", files, x.slots(), y.slots(), y.slots(), result(y, nil))
		wantError(t, what+", and a folder", files, told{"a 1", "a/b 1"}.slots(), told{"a 1", "a/b 1"}.slots(), told{"a 1", "a/b 1"}.slots(), api.ErrExists)
	}
	want(t, "nothing is there, and nothing is got", x, y, x, result(y, nil))
	wantIs(t, "no files", nil, x.slots(), x.slots(), z.slots(), result(z, nil))
}
