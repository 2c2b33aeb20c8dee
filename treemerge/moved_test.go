package treemerge_test

import "testing"

// text is lines of which a side may change one, and stay alike: it is moved then. near, far and end are such; other isn't.
const (
	text  = "1\n2\n3\n4\n5\n6\n"
	near  = "x\n2\n3\n4\n5\n6\n"
	far   = "1\n2\n3\n4\n5\ny\n"
	made  = "x\n2\n3\n4\n5\ny\n"
	end   = "1\n2\n3\n4\n5\nz\n"
	other = "another one\n"
)

// P23.1: a moved file that the other side changed, left as it was, took away, on either side.
func TestMoved(t *testing.T) {
	o := told{"x " + text}
	want(t, "the other side left it", o, told{"y " + text}, o, result(told{"y " + text}, nil))
	want(t, "the other side left it, and it changed", o, told{"y " + near}, o, result(told{"y " + near}, nil))
	want(t, "the other side changed it", o, told{"y " + text}, told{"x " + far}, result(told{"y " + far}, nil))
	want(t, "theirs moved it, ours changed it", o, told{"x " + far}, told{"y " + text}, result(told{"y " + far}, nil))
	want(t, "both changed it", o, told{"y " + near}, told{"x " + far}, result(told{"y " + made}, nil, made))
	want(t, "both changed it, theirs moved it", o, told{"x " + near}, told{"y " + far}, result(told{"y " + made}, nil, made))
	want(t, "both changed it alike", o, told{"y " + near}, told{"x " + near}, result(told{"y " + near}, nil))
	clashes := "1\n2\n3\n4\n5\n" + clash("y\n", "6\n", "z\n")
	want(t, "both changed a line", o, told{"y " + far}, told{"x " + end},
		result(told{"1:y " + text, "2:y " + far, "3:y " + end}, told{"y " + clashes}))
	want(t, "both changed a line, theirs moved it", o, told{"x " + far}, told{"y " + end},
		result(told{"1:y " + text, "2:y " + far, "3:y " + end}, told{"y " + clashes}))
	want(t, "the other side took it", o, told{"y " + text}, nil, result(told{"y " + text}, nil))
	want(t, "the other side took it, and it changed", o, told{"y " + near}, nil, result(told{"y " + near}, nil))
	want(t, "ours took it, theirs moved it", o, nil, told{"y " + text}, result(told{"y " + text}, nil))
	want(t, "what moved stands ahead of its old path", told{"m " + text}, told{"a " + near}, told{"m " + far}, result(told{"a " + made}, nil, made))
	want(t, "into a folder", told{"m " + text}, told{"m/n/o " + near}, told{"m " + far}, result(told{"m/n/o " + made}, nil, made))
}

// P23.1: the other side made another file of it, which is no question of the path it moved from.
func TestMovedAndReplaced(t *testing.T) {
	o := told{"x " + text}
	want(t, "another file stands there on the other side", o, told{"y " + text}, told{"x " + other}, result(told{"y " + other}, nil))
	want(t, "another file, and it changed", o, told{"y " + near}, told{"x " + other},
		result(told{"1:y " + text, "2:y " + near, "3:y " + other}, told{"y " + clash(near, text, other)}))
	want(t, "another file came to the path it moved from", o, told{"x " + other, "y " + text}, o, result(told{"x " + other, "y " + text}, nil))
	want(t, "too little is left of it", o, told{"y 1\n7\n8\n9\n0\n"}, told{"x " + far},
		result(told{"1:x " + text, "3:x " + far, "y 1\n7\n8\n9\n0\n"}, told{"x " + far}))
}

// P23.1: at least 50 of 100 make a file a moved one.
func TestMovedLeast(t *testing.T) {
	want(t, "50 of 100", told{"x a\nb\n"}, told{"y a\nc\n"}, told{"x* a\nb\n"}, result(told{"y* a\nc\n"}, nil, "a\nc\n"))
	want(t, "49 of 100", told{"x " + lines("a", 49, 100)}, told{"y " + lines("b", 49, 100)}, told{"x* " + lines("a", 49, 100)},
		result(told{"1:x " + lines("a", 49, 100), "3:x* " + lines("a", 49, 100), "y " + lines("b", 49, 100)}, told{"x " + lines("a", 49, 100)}))
	want(t, "50 of 100 lines", told{"x " + lines("a", 50, 100)}, told{"y " + lines("b", 50, 100)}, told{"x* " + lines("a", 50, 100)},
		result(told{"y* " + lines("b", 50, 100)}, nil, lines("b", 50, 100)))
}

// lines answers n lines, the first same ones of which are those of any other such text.
func lines(word string, same, n int) string {
	text := ""
	for i := range n {
		line := string([]byte{'0' + byte(i/10), '0' + byte(i%10)})
		if i < same {
			text += "=" + line + "\n"
		} else {
			text += word + line + "\n"
		}
	}
	return text
}

// P23.1: both sides moved a file, to the same path, whatever they changed, and to others.
func TestMovedByBoth(t *testing.T) {
	o := told{"x " + text}
	want(t, "to the same path", o, told{"y " + text}, told{"y " + text}, result(told{"y " + text}, nil))
	want(t, "to the same path, ours changed it", o, told{"y " + near}, told{"y " + text}, result(told{"y " + near}, nil))
	want(t, "to the same path, theirs changed it", o, told{"y " + text}, told{"y " + far}, result(told{"y " + far}, nil))
	want(t, "to the same path, both changed it", o, told{"y " + near}, told{"y " + far + "more\n"}, result(told{"y " + made + "more\n"}, nil, made+"more\n"))
	want(t, "to the same path, one line", o, told{"y " + far}, told{"y " + end},
		result(told{"1:y " + text, "2:y " + far, "3:y " + end}, told{"y 1\n2\n3\n4\n5\n" + clash("y\n", "6\n", "z\n")}))
	want(t, "to the same path, theirs is no longer alike", o, told{"y " + near}, told{"y " + other},
		result(told{"2:y " + near, "3:y " + other}, told{"y " + clash(near, "", other)}))
	want(t, "apart", o, told{"y " + text}, told{"z " + text}, result(told{"y " + text, "z " + text}, nil))
	want(t, "apart, and changed", o, told{"y " + near}, told{"z " + far}, result(told{"y " + near, "z " + far}, nil))
	want(t, "two to the same paths", told{"a " + text, "b " + other}, told{"c " + near, "d " + other}, told{"c " + far, "d* " + other},
		result(told{"c " + made, "d* " + other}, nil, made))
	want(t, "two, crosswise", told{"a " + text, "b " + other}, told{"c " + text, "d " + other}, told{"c " + other, "d " + text},
		result(told{"2:c " + text, "3:c " + other, "2:d " + other, "3:d " + text}, told{"c " + clash(text, "", other), "d " + clash(other, "", text)}))
}

// P23.1: each side moved a file of its own.
func TestMovedByEach(t *testing.T) {
	want(t, "to paths of their own", told{"a " + text, "b " + other}, told{"b " + other + "x\n", "c " + near}, told{"a " + far, "d " + other},
		result(told{"c " + made, "d " + other + "x\n"}, nil, made))
	// Pairs of both sides that lead to one path: neither counts, as the other side has a slot there.
	want(t, "to one path", told{"a " + text, "b " + other}, told{"b " + other, "c " + text}, told{"a " + text, "c " + other},
		result(told{"2:c " + text, "3:c " + other}, told{"c " + clash(text, "", other)}))
	want(t, "to one path, with one text", told{"a " + text, "b " + text}, told{"b " + text, "c " + text}, told{"a " + text, "c " + text},
		result(told{"c " + text}, nil))
	want(t, "to one path, and both changed what the other one moved", told{"a " + text, "b " + other}, told{"b* " + other, "c " + text}, told{"a* " + text, "c " + other},
		result(told{"1:a " + text, "3:a* " + text, "1:b " + other, "2:b* " + other, "2:c " + text, "3:c " + other},
			told{"a " + text, "b " + other, "c " + clash(text, "", other)}))
}

// P23.1: a path that base has, or the other side, is none that a file moved to.
func TestMovedToOneThatIsThere(t *testing.T) {
	want(t, "base has it", told{"x " + text, "y " + other}, told{"y " + text}, told{"x " + far, "y " + other},
		result(told{"1:x " + text, "3:x " + far, "y " + text}, told{"x " + far}))
	want(t, "base alone has it", told{"x " + text, "y " + other}, told{"y " + text}, told{"x " + far},
		result(told{"1:x " + text, "3:x " + far, "1:y " + other, "2:y " + text}, told{"x " + far, "y " + text}))
	want(t, "the other side has it", told{"x " + text}, told{"y " + text}, told{"x " + far, "y " + other},
		result(told{"1:x " + text, "3:x " + far, "2:y " + text, "3:y " + other}, told{"x " + far, "y " + clash(text, "", other)}))
	want(t, "the other side has it, alike", told{"x " + text}, told{"y " + text}, told{"x " + text, "y " + text}, result(told{"y " + text}, nil))
	want(t, "the other side has a copy, and changed it", told{"x " + text}, told{"y " + text}, told{"x " + far, "y " + text},
		result(told{"1:x " + text, "3:x " + far, "y " + text}, told{"x " + far}))
}

// P23.1: a moved file whose mode changed, on that side, on the other one, on both; and links.
func TestMovedModes(t *testing.T) {
	o := told{"x " + text}
	want(t, "on that side", o, told{"y* " + text}, told{"x " + far}, result(told{"y* " + far}, nil, far))
	want(t, "on that side, the other one left it", o, told{"y* " + text}, o, result(told{"y* " + text}, nil))
	want(t, "on the other side", o, told{"y " + text}, told{"x* " + text}, result(told{"y* " + text}, nil))
	want(t, "on the other side, and it changed", o, told{"y " + near}, told{"x* " + far}, result(told{"y* " + made}, nil, made))
	want(t, "on both sides", o, told{"y* " + near}, told{"x* " + far}, result(told{"y* " + made}, nil, made))
	want(t, "of a link, both unlike", told{"x@ " + text}, told{"y " + near}, told{"x* " + far},
		result(told{"1:y@ " + text, "2:y " + near, "3:y* " + far}, told{"y " + made}))
	want(t, "became a link", o, told{"y@ " + text}, told{"x " + far}, result(told{"1:y " + text, "2:y@ " + text, "3:y " + far}, told{"y " + text}))
	want(t, "became a link on the other side", o, told{"y " + near}, told{"x@ " + text}, result(told{"1:y " + text, "2:y " + near, "3:y@ " + text}, told{"y " + near}))
	want(t, "a link that moved", told{"x@ " + text}, told{"y@ " + text}, told{"x@ " + far}, result(told{"y@ " + far}, nil))
	want(t, "both moved it, the modes clash", told{"x@ " + text}, told{"y " + text}, told{"y* " + text},
		result(told{"1:y@ " + text, "2:y " + text, "3:y* " + text}, told{"y " + text}))
}

// P23.1: which pairs there are, rename.Pairs says: of two files of one text the first one moved.
func TestMovedOfSeveral(t *testing.T) {
	want(t, "two of one text, one went", told{"a " + text, "b " + text}, told{"b " + text, "c " + text}, told{"a " + far, "b " + end},
		result(told{"b " + end, "c " + far}, nil))
	want(t, "two of one text, both went", told{"a " + text, "b " + text}, told{"c " + text}, told{"a " + far, "b " + text}, result(told{"c " + far}, nil))
	want(t, "two of one text, both went, and both changed", told{"a " + text, "b " + text}, told{"c " + text}, told{"a " + far, "b " + end},
		result(told{"1:b " + text, "3:b " + end, "c " + far}, told{"b " + end}))
	want(t, "one became two", told{"a " + text}, told{"b " + text, "c " + text}, told{"a " + far}, result(told{"b " + far, "c " + text}, nil))
	want(t, "to where another one moved away", told{"a " + text, "b " + other}, told{"b " + text, "c " + other}, told{"a " + text, "b " + other + "more\n"},
		result(told{"1:b " + other, "2:b " + text, "3:b " + other + "more\n", "c " + other}, told{"b " + clash(text, other, other+"more\n")}))
}

// P23.1: a moved file makes a path a folder of another one.
func TestMovedFolders(t *testing.T) {
	wantExists(t, "moved into what is a file of the other side", told{"x " + text}, told{"a/b " + text}, told{"a 1", "x " + far})
	wantExists(t, "moved to what is a folder of the other side", told{"x " + text}, told{"a " + text}, told{"a/b 1", "x " + far})
	wantExists(t, "moved into what moved on the other side", told{"x " + text, "y " + other}, told{"a " + text, "y " + other}, told{"a/b " + other, "x " + text})
	want(t, "the file in the way moved, too", told{"a " + text}, told{"a/b " + text}, told{"a " + far}, result(told{"a/b " + far}, nil))
	wantExists(t, "what clashes moved below another one", told{"x " + text}, told{"a/b " + far}, told{"a 1", "x " + end})
}
