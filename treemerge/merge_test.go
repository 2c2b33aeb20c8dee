package treemerge_test

import (
	"testing"

	"codicil/api"
)

// P23.1: the chapter's examples.
func TestExamples(t *testing.T) {
	want(t, "moved and changed", told{"x 1\n2\n3\n"}, told{"y 1\n2\n3\n"}, told{"x 1\nx\n3\n"}, result(told{"y 1\nx\n3\n"}, nil))
	want(t, "moved with a change, and changed", told{"x 1\n2\n3\n4\n5\n"}, told{"y 0\n1\n2\n3\n4\n5\n"}, told{"x 1\n2\n3\n4\n6\n"},
		result(told{"y 0\n1\n2\n3\n4\n6\n"}, nil, "0\n1\n2\n3\n4\n6\n"))
	want(t, "gone and changed", told{"x 1\n"}, nil, told{"x 2\n"}, result(told{"1:x 1\n", "3:x 2\n"}, told{"x 2\n"}))
}

// P23.1: three empty lists, two, one.
func TestEmpty(t *testing.T) {
	l := told{"a 1", "b* 2", "c/d@ 3"}
	want(t, "three empty lists", nil, nil, nil, result(nil, nil))
	want(t, "both sides are empty", l, nil, nil, result(nil, nil))
	want(t, "base and ours are empty", nil, nil, l, result(l, nil))
	want(t, "base and theirs are empty", nil, l, nil, result(l, nil))
	want(t, "base is empty", nil, l, l, result(l, nil))
	want(t, "ours is empty", l, nil, l, result(nil, nil))
	want(t, "theirs is empty", l, l, nil, result(nil, nil))
	want(t, "base is empty, both sides are unlike", nil, told{"a 1"}, told{"b 2"}, result(told{"a 1", "b 2"}, nil))
}

// P23.1, P23.2: equal lists, a side that changed nothing, both changed alike. Nothing clashes, and no blob is new.
func TestOneChange(t *testing.T) {
	o := told{"a 1\n", "b* 2\n", "c/d@ 3", "e 4\n", "f 1\n2\n3\n"}
	other := told{"a 9\n", "b 2\n", "c/d@ 5", "g 6\n", "h 1\n2\n4\n"}
	want(t, "all equal", o, o, o, result(o, nil))
	want(t, "ours changed nothing", o, o, other, result(other, nil))
	want(t, "theirs changed nothing", o, other, o, result(other, nil))
	want(t, "both changed alike", o, other, other, result(other, nil))
	want(t, "both came alike", nil, other, other, result(other, nil))
}

// P23.1, first case: a path that is in one list, in two, in all three.
func TestFirstCase(t *testing.T) {
	x, y := told{"m 1\n"}, told{"m 2\n"}
	want(t, "in base alone", x, nil, nil, result(nil, nil))
	want(t, "in ours alone", nil, x, nil, result(x, nil))
	want(t, "in theirs alone", nil, nil, x, result(x, nil))
	want(t, "in both sides, alike", nil, x, x, result(x, nil))
	want(t, "in base and ours, alike", x, x, nil, result(nil, nil))
	want(t, "in base and theirs, alike", x, nil, x, result(nil, nil))
	want(t, "in all, alike", x, x, x, result(x, nil))
	want(t, "in all, ours changed", x, y, x, result(y, nil))
	want(t, "in all, theirs changed", x, x, y, result(y, nil))
	want(t, "in all, both changed alike", x, y, y, result(y, nil))
	for _, marked := range []told{{"m* 1\n"}, {"m@ 1\n"}} {
		want(t, "ours changed the mode alone", x, marked, x, result(marked, nil))
		want(t, "theirs changed the mode alone", x, x, marked, result(marked, nil))
		want(t, "both changed the mode alike", x, marked, marked, result(marked, nil))
	}
}

// P23.1, third case: a file that one side took away and the other one changed, on either side; the text is what is left.
func TestGoneAndChanged(t *testing.T) {
	want(t, "ours took it", told{"m 1\n"}, nil, told{"m 2\n"}, result(told{"1:m 1\n", "3:m 2\n"}, told{"m 2\n"}))
	want(t, "theirs took it", told{"m 1\n"}, told{"m 2\n"}, nil, result(told{"1:m 1\n", "2:m 2\n"}, told{"m 2\n"}))
	want(t, "ours took it, theirs changed its mode", told{"m 1\n"}, nil, told{"m* 1\n"}, result(told{"1:m 1\n", "3:m* 1\n"}, told{"m 1\n"}))
	want(t, "theirs took it, ours made it a link", told{"m 1\n"}, told{"m@ 1\n"}, nil, result(told{"1:m 1\n", "2:m@ 1\n"}, told{"m 1\n"}))
	want(t, "ours took a link, theirs changed it", told{"m@ 1"}, nil, told{"m@ 2"}, result(told{"1:m@ 1", "3:m@ 2"}, told{"m 2"}))
	want(t, "what is left has no bytes", told{"m 1\n"}, nil, told{"m "}, result(told{"1:m 1\n", "3:m "}, told{"m "}))
	want(t, "beside others", told{"a 1", "m 1\n", "z 3"}, told{"a 1", "b 4", "z 3"}, told{"a 5", "m 2\n"},
		result(told{"a 5", "b 4", "1:m 1\n", "3:m 2\n"}, told{"m 2\n"}))
}

// P23.1, second case: texts that both changed, with and without a clash.
func TestTexts(t *testing.T) {
	o := told{"m 1\n2\n3\n"}
	want(t, "changes apart", o, told{"m x\n2\n3\n"}, told{"m 1\n2\ny\n"}, result(told{"m x\n2\ny\n"}, nil, "x\n2\ny\n"))
	want(t, "one line", o, told{"m 1\nx\n3\n"}, told{"m 1\ny\n3\n"},
		result(told{"1:m 1\n2\n3\n", "2:m 1\nx\n3\n", "3:m 1\ny\n3\n"}, told{"m 1\n" + clash("x\n", "2\n", "y\n") + "3\n"}))
	want(t, "one of two pieces clashes", told{"m 1\n2\n3\n4\n5\n"}, told{"m x\n2\n3\n4\ny\n"}, told{"m 1\n2\n3\n4\nz\n"},
		result(told{"1:m 1\n2\n3\n4\n5\n", "2:m x\n2\n3\n4\ny\n", "3:m 1\n2\n3\n4\nz\n"}, told{"m x\n2\n3\n4\n" + clash("y\n", "5\n", "z\n")}))
	want(t, "all of it went on one side", o, told{"m "}, told{"m 1\n2\n3\n4\n"},
		result(told{"1:m 1\n2\n3\n", "2:m ", "3:m 1\n2\n3\n4\n"}, told{"m " + clash("", "1\n2\n3\n", "1\n2\n3\n4\n")}))
	want(t, "each took a line", told{"m 1\n2\n3\n"}, told{"m 2\n3\n"}, told{"m 1\n2\n"}, result(told{"m 2\n"}, nil, "2\n"))
	want(t, "one took a line, the other one all", told{"m 1\n1\n"}, told{"m 1\n"}, told{"m "},
		result(told{"1:m 1\n1\n", "2:m 1\n", "3:m "}, told{"m " + clash("1\n", "1\n1\n", "")}))
	want(t, "base has no bytes", told{"m "}, told{"m x\n"}, told{"m y\n"},
		result(told{"1:m ", "2:m x\n", "3:m y\n"}, told{"m " + clash("x\n", "", "y\n")}))
}

// P23.1: a file that both added, alike and unlike: base's text is nothing then.
func TestBothAdded(t *testing.T) {
	want(t, "alike", nil, told{"m 1\n"}, told{"m 1\n"}, result(told{"m 1\n"}, nil))
	want(t, "unlike", nil, told{"m 1\n"}, told{"m 2\n"}, result(told{"2:m 1\n", "3:m 2\n"}, told{"m " + clash("1\n", "", "2\n")}))
	want(t, "unlike, ours has no bytes", nil, told{"m "}, told{"m 2\n"}, result(told{"m 2\n"}, nil, "2\n"))
	want(t, "unlike, theirs has no bytes", nil, told{"m* 1\n"}, told{"m* "}, result(told{"m* 1\n"}, nil, "1\n"))
	want(t, "with unlike modes alone", nil, told{"m 1\n"}, told{"m* 1\n"}, result(told{"2:m 1\n", "3:m* 1\n"}, told{"m 1\n"}))
	want(t, "unlike, with unlike modes", nil, told{"m* 1\n"}, told{"m 2\n"}, result(told{"2:m* 1\n", "3:m 2\n"}, told{"m " + clash("1\n", "", "2\n")}))
	want(t, "a link and a file", nil, told{"m@ 1"}, told{"m 2\n"}, result(told{"2:m@ 1", "3:m 2\n"}, told{"m 1"}))
	want(t, "two links", nil, told{"m@ 1"}, told{"m@ 2"}, result(told{"2:m@ 1", "3:m@ 2"}, told{"m 1"}))
	want(t, "two links, alike", nil, told{"m@ 1"}, told{"m@ 1"}, result(told{"m@ 1"}, nil))
}

// P23.1: modes that one side changed, that both changed alike and unlike, beside texts that are merged; a blob of the second
// case is an object more, though it is there already.
func TestModes(t *testing.T) {
	want(t, "ours the mode, theirs the text", told{"m 1\n"}, told{"m* 1\n"}, told{"m 2\n"}, result(told{"m* 2\n"}, nil, "2\n"))
	want(t, "ours the text, theirs the mode", told{"m 1\n"}, told{"m 2\n"}, told{"m* 1\n"}, result(told{"m* 2\n"}, nil, "2\n"))
	want(t, "the mode goes back", told{"m* 1\n"}, told{"m 1\n"}, told{"m* 2\n"}, result(told{"m 2\n"}, nil, "2\n"))
	o := told{"m 1\n2\n3\n"}
	want(t, "both the text, ours the mode", o, told{"m* x\n2\n3\n"}, told{"m 1\n2\ny\n"}, result(told{"m* x\n2\ny\n"}, nil, "x\n2\ny\n"))
	want(t, "both the text, theirs the mode", o, told{"m x\n2\n3\n"}, told{"m* 1\n2\ny\n"}, result(told{"m* x\n2\ny\n"}, nil, "x\n2\ny\n"))
	want(t, "both the text, both the mode alike", o, told{"m* x\n2\n3\n"}, told{"m* 1\n2\ny\n"}, result(told{"m* x\n2\ny\n"}, nil, "x\n2\ny\n"))
	want(t, "one text, and one mode", told{"m 1\n"}, told{"m 2\n"}, told{"m* 2\n"}, result(told{"m* 2\n"}, nil, "2\n"))
	want(t, "one mode, and one text", told{"m* 1\n"}, told{"m 2\n"}, told{"m* 2\n"}, result(told{"m 2\n"}, nil, "2\n"))
	want(t, "a mode, and texts that clash", told{"m 1\n"}, told{"m* 2\n"}, told{"m 3\n"},
		result(told{"1:m 1\n", "2:m* 2\n", "3:m 3\n"}, told{"m " + clash("2\n", "1\n", "3\n")}))
	want(t, "modes alike, and texts that clash", told{"m 1\n"}, told{"m* 2\n"}, told{"m* 3\n"},
		result(told{"1:m 1\n", "2:m* 2\n", "3:m* 3\n"}, told{"m " + clash("2\n", "1\n", "3\n")}))
}

// P23.1: modes that clash, beside a text that comes out without a clash, which is no object: with base's slot, a link, and
// without.
func TestModesClash(t *testing.T) {
	o := told{"m@ 1\n2\n3\n"}
	want(t, "texts apart", o, told{"m x\n2\n3\n"}, told{"m* 1\n2\ny\n"},
		result(told{"1:m@ 1\n2\n3\n", "2:m x\n2\n3\n", "3:m* 1\n2\ny\n"}, told{"m x\n2\ny\n"}))
	want(t, "one id of all", o, told{"m 1\n2\n3\n"}, told{"m* 1\n2\n3\n"},
		result(told{"1:m@ 1\n2\n3\n", "2:m 1\n2\n3\n", "3:m* 1\n2\n3\n"}, told{"m 1\n2\n3\n"}))
	want(t, "one id of both sides", o, told{"m 4\n"}, told{"m* 4\n"}, result(told{"1:m@ 1\n2\n3\n", "2:m 4\n", "3:m* 4\n"}, told{"m 4\n"}))
	want(t, "one id of base and ours", o, told{"m* 1\n2\n3\n"}, told{"m 4\n"}, result(told{"1:m@ 1\n2\n3\n", "2:m* 1\n2\n3\n", "3:m 4\n"}, told{"m 4\n"}))
	want(t, "one id of base and theirs", o, told{"m* 4\n"}, told{"m 1\n2\n3\n"}, result(told{"1:m@ 1\n2\n3\n", "2:m* 4\n", "3:m 1\n2\n3\n"}, told{"m 4\n"}))
	want(t, "texts clash, too", told{"m@ 1\n"}, told{"m 2\n"}, told{"m* 3\n"},
		result(told{"1:m@ 1\n", "2:m 2\n", "3:m* 3\n"}, told{"m " + clash("2\n", "1\n", "3\n")}))
	want(t, "without base", nil, told{"m 4\n"}, told{"m* 4\n"}, result(told{"2:m 4\n", "3:m* 4\n"}, told{"m 4\n"}))
	want(t, "without base, one side has no bytes", nil, told{"m "}, told{"m* 4\n"}, result(told{"2:m ", "3:m* 4\n"}, told{"m 4\n"}))
}

// P23.1: a link in base, in ours, in theirs: those of both sides aren't merged; base's is a text as any other one.
func TestLinks(t *testing.T) {
	want(t, "a link that ours changed", told{"m@ 1"}, told{"m@ 2"}, told{"m@ 1"}, result(told{"m@ 2"}, nil))
	want(t, "a link that both changed", told{"m@ 1"}, told{"m@ 2"}, told{"m@ 3"}, result(told{"1:m@ 1", "2:m@ 2", "3:m@ 3"}, told{"m 2"}))
	want(t, "lines apart", told{"m@ 1\n2\n3\n"}, told{"m@ x\n2\n3\n"}, told{"m@ 1\n2\ny\n"},
		result(told{"1:m@ 1\n2\n3\n", "2:m@ x\n2\n3\n", "3:m@ 1\n2\ny\n"}, told{"m x\n2\n3\n"}))
	want(t, "ours made it a link, theirs changed it", told{"m 1\n"}, told{"m@ 1\n"}, told{"m 2\n"},
		result(told{"1:m 1\n", "2:m@ 1\n", "3:m 2\n"}, told{"m 1\n"}))
	want(t, "theirs made it a link, ours changed it", told{"m 1\n"}, told{"m 2\n"}, told{"m@ 1\n"},
		result(told{"1:m 1\n", "2:m 2\n", "3:m@ 1\n"}, told{"m 2\n"}))
	want(t, "one made it a link, the other one ModeExec", told{"m 1\n"}, told{"m@ 1\n"}, told{"m* 1\n"},
		result(told{"1:m 1\n", "2:m@ 1\n", "3:m* 1\n"}, told{"m 1\n"}))
	want(t, "both made it files, of one mode", told{"m@ 1\n2\n3\n"}, told{"m x\n2\n3\n"}, told{"m 1\n2\ny\n"}, result(told{"m x\n2\ny\n"}, nil, "x\n2\ny\n"))
	want(t, "both made it a file, of one text", told{"m@ 1\n"}, told{"m* 2\n"}, told{"m* 2\n"}, result(told{"m* 2\n"}, nil))
}

// P23.1: two slots with one id and unlike modes: that side's text that differs from base's, by merge.Three all the same.
func TestOneId(t *testing.T) {
	want(t, "ours has base's", told{"m 1\n2\n"}, told{"m* 1\n2\n"}, told{"m 1\n3\n"}, result(told{"m* 1\n3\n"}, nil, "1\n3\n"))
	want(t, "theirs has base's", told{"m 1\n2\n"}, told{"m 1\n3\n"}, told{"m* 1\n2\n"}, result(told{"m* 1\n3\n"}, nil, "1\n3\n"))
	want(t, "ours has theirs", told{"m 1\n2\n"}, told{"m 1\n3\n"}, told{"m* 1\n3\n"}, result(told{"m* 1\n3\n"}, nil, "1\n3\n"))
	want(t, "one without bytes", told{"m 1\n2\n"}, told{"m* "}, told{"m "}, result(told{"m* "}, nil, ""))
	want(t, "without base", nil, told{"m 1\n"}, told{"m* 1\n"}, result(told{"2:m 1\n", "3:m* 1\n"}, told{"m 1\n"}))
}

// P23.1: Slots in order, by paths, then by stages; Work and Objects by paths; two paths with one new blob have it twice.
func TestOrder(t *testing.T) {
	const o, a, b, made = "1\n2\n3\n", "x\n2\n3\n", "1\n2\ny\n", "x\n2\ny\n"
	base, ours, theirs, wanted := told{}, told{}, told{}, told{}
	var work told
	var objects []string
	for i, path := range []string{"A", "a-", "a.b", "a/b", "a/c/d", "a0", "b", "c", "é", "\xff"} {
		if i%3 == 1 {
			base, ours, theirs = append(base, path+" 1\n"), append(ours, path+" 2\n"), append(theirs, path+" 3\n")
			wanted = append(wanted, "1:"+path+" 1\n", "2:"+path+" 2\n", "3:"+path+" 3\n")
			work = append(work, path+" "+clash("2\n", "1\n", "3\n"))
			continue
		}
		last := path + "\n"
		if i%3 == 2 {
			last = ""
		}
		base, ours, theirs = append(base, path+" "+o+last), append(ours, path+" "+a+last), append(theirs, path+" "+b+last)
		wanted = append(wanted, path+" "+made+last)
		objects = append(objects, made+last)
	}
	want(t, "many paths", base, ours, theirs, result(wanted, work, objects...))
	want(t, "two paths with one new blob", told{"a " + o, "b " + o}, told{"a " + a, "b " + a}, told{"a " + b, "b " + b},
		result(told{"a " + made, "b " + made}, nil, made, made))
	want(t, "a new blob that stands at a third path", told{"a " + o, "z " + made}, told{"a " + a, "z " + made}, told{"a " + b, "z " + made},
		result(told{"a " + made, "z " + made}, nil, made))
}

// P23.1: Size and Time of what is handed in are no question, and no slot has one.
func TestSizeAndTime(t *testing.T) {
	l := told{"m 1\n", "n 2\n"}
	files := own(blobsOf(l, told{"m 3\n"})...)
	const most = 1<<32 - 1
	for _, x := range [][2]int{{0, 0}, {0, 7}, {7, 0}, {most, most}} {
		base, ours, theirs := l.slots(), l.slots(), l.slots()
		for i := range l {
			ours[i].Size, ours[i].Time = x[0], x[1]
		}
		wantIs(t, "ours has others", files, base, ours, theirs, result(l, nil))
		wantIs(t, "base has others", files, ours, base, theirs, result(l, nil))
		wantIs(t, "theirs has others", files, base, theirs, ours, result(l, nil))
		wantIs(t, "both have others", files, base, ours, ours, result(l, nil))
		changed := told{"m 3\n", "n 2\n"}.slots()
		wantIs(t, "another Size or Time is no change", files, base, ours, changed, result(told{"m 3\n", "n 2\n"}, nil))
		wantIs(t, "another Size or Time is no change", files, base, changed, ours, result(told{"m 3\n", "n 2\n"}, nil))
		wantIs(t, "came with others", files, nil, ours, nil, result(l, nil))
		wantIs(t, "clashes with others", files, ours[:1], nil, changed[:1], result(told{"1:m 1\n", "3:m 3\n"}, told{"m 3\n"}))
	}
}

// P23.1: a path that is a folder of another one, where one side has a file and the other one a folder, settled and clashing.
func TestFolders(t *testing.T) {
	wantExists(t, "both came", nil, told{"a 1"}, told{"a/b 2"})
	wantExists(t, "both came, deeper", nil, told{"a 1"}, told{"a/b/c 2"})
	wantExists(t, "others stand between", nil, told{"a 1", "a-b 3", "a.b 4"}, told{"a/b 2"})
	wantExists(t, "a file became a folder, and changed", told{"a 1"}, told{"a/b 3"}, told{"a 2"})
	wantExists(t, "a folder became a file, and one came", told{"a/b 1"}, told{"a 2"}, told{"a/b 1", "a/c 3"})
	wantExists(t, "one that clashes is a folder", told{"a 1"}, told{"a/b x"}, told{"a 2"})
	wantExists(t, "one that clashes stands in it", told{"a/b 1"}, told{"a x"}, told{"a/b 2"})
	wantExists(t, "both clash", told{"a 1", "a/b 2"}, told{"a 3", "a/b 4"}, told{"a 5", "a/b 6"})
	wantExists(t, "one side had both", told{"a 1"}, told{"a 1", "a/b 2"}, told{"a 1"})
	wantExists(t, "all had both", told{"a 1", "a/b 2"}, told{"a 1", "a/b 2"}, told{"a 1", "a/b 2"})
	want(t, "base had both, a side made it well", told{"a 1", "a/b 2"}, told{"a 1", "a/b 2"}, told{"a 1"}, result(told{"a 1"}, nil))
	want(t, "the file went on the other side", told{"a 1"}, told{"a/b 2"}, nil, result(told{"a/b 2"}, nil))
	want(t, "a file became a folder", told{"a 1"}, told{"a/b 2"}, told{"a 1"}, result(told{"a/b 2"}, nil))
	want(t, "names that only begin alike", nil, told{"a 1", "ab 2"}, told{"a.b/c 3", "aa/b 4"}, result(told{"a 1", "a.b/c 3", "aa/b 4", "ab 2"}, nil))
}

// P23.1: more slots may come out than an index has.
func TestManySlots(t *testing.T) {
	many := func(folder string) []api.Slot {
		var l []api.Slot
		for i := range api.MaxEntries {
			l = append(l, api.Slot{Path: folder + "/" + string([]byte{'a' + byte(i>>8), 'a' + byte(i>>4&15), 'a' + byte(i&15)}), Mode: api.ModeFile, Id: idOf(blob("1"))})
		}
		return l
	}
	files := own(blob("1"), blob("2"))
	a, b := many("a"), many("b")
	r := result(nil, nil)
	r.Slots = append(append(r.Slots, a...), b...)
	wantIs(t, "both came", files, nil, a, b, r)
	wantIs(t, "both came, exchanged", files, nil, b, a, r)
	r.Slots = b
	wantIs(t, "all moved", files, a, b, a, r)
	wantIs(t, "all moved, both alike", files, a, b, b, r)
	changed := many("a")
	for i := range changed {
		changed[i].Id = idOf(blob("2"))
	}
	r = result(nil, nil)
	for i, s := range a {
		other := changed[i]
		s.Stage, other.Stage = 1, 3
		r.Slots = append(r.Slots, s, other)
		r.Work = append(r.Work, api.File{Path: s.Path, Data: []byte("2")})
	}
	wantIs(t, "all clash", files, a, nil, changed, r)
}
