package merge_test

import (
	"math/rand"
	"strconv"
	"strings"
	"testing"
)

// P21.1: the chapter's examples.
func TestExamples(t *testing.T) {
	wantThree(t, "1\n2\n3\n", "1\nx\n2\n3\n", "1\n2\n3\ny\n", "1\nx\n2\n3\ny\n", 0)
	const told = "<<<<<<< a\n2\n||||||| base\n1\n=======\n3\n>>>>>>> b\n"
	wantOne(t, "1\n", "2\n", "3\n", [2]string{"a", "b"}, told, 1)
	wantOne(t, "1", "2", "3", [2]string{"a", "b"}, told, 1)
}

// P21.1: texts without lines: all three, two, one.
func TestEmpty(t *testing.T) {
	wantThree(t, "", "", "", "", 0)
	wantThree(t, "", "", "x\ny\n", "x\ny\n", 0)
	wantThree(t, "", "x\ny\n", "", "x\ny\n", 0)
	wantThree(t, "x\ny\n", "", "", "", 0)
	wantThree(t, "", "x\ny\n", "x\ny\n", "x\ny\n", 0)
	wantThree(t, "x\ny\n", "", "x\ny\n", "", 0)
	wantThree(t, "x\ny\n", "x\ny\n", "", "", 0)
	wantClash(t, "", "x\n", "y\n", "x\n", "", "y\n")
	wantClash(t, "x\n", "", "y\n", "", "x\n", "y\n")
	wantClash(t, "x\n", "y\n", "", "y\n", "x\n", "")
}

// P21.1, P21.2: equal texts, a side that changed nothing, both changed alike.
func TestOneChange(t *testing.T) {
	wantThree(t, "1\n2\n3\n", "1\n2\n3\n", "1\n2\n3\n", "1\n2\n3\n", 0)
	wantThree(t, "1\n2\n3\n", "1\n2\n3\n", "0\n1\n3\n4\n", "0\n1\n3\n4\n", 0)
	wantThree(t, "1\n2\n3\n", "1\nx\n3\n", "1\n2\n3\n", "1\nx\n3\n", 0)
	wantThree(t, "1\n2\n3\n", "1\nx\n3\n", "1\nx\n3\n", "1\nx\n3\n", 0)
	wantThree(t, "1\n2\n3\n", "x\n1\n3\n", "x\n1\n2\n3\ny\n", "x\n1\n3\ny\n", 0)
	wantThree(t, "1\n2\n3\n", "3\n", "3\n4\n", "3\n4\n", 0)
	wantThree(t, "1\n2\n3\n", "x\ny\nz\n", "x\ny\nz\n", "x\ny\nz\n", 0)
}

// P21.1: changes with an anchor between them are both made; others touch, and clash.
func TestTouching(t *testing.T) {
	wantThree(t, "1\n2\n3\n", "x\n2\n3\n", "1\n2\ny\n", "x\n2\ny\n", 0)
	wantThree(t, "1\n2\n3\n", "2\n3\n", "1\n2\n", "2\n", 0)
	wantThree(t, "1\n2\n3\n", "1\nx\n2\n3\n", "1\n2\ny\n3\n", "1\nx\n2\ny\n3\n", 0)
	wantThree(t, "1\n", "x\n1\n", "1\ny\n", "x\n1\ny\n", 0)
	wantClash(t, "1\n2\n", "x\n2\n", "1\ny\n", "x\n2\n", "1\n2\n", "1\ny\n")
	wantClash(t, "1\n2\n", "2\n", "1\n", "2\n", "1\n2\n", "1\n")
	wantThree(t, "0\n1\n2\n3\n", "0\nx\n2\n3\n", "0\n1\ny\n3\n", "0\n"+clash(both(), "x\n2\n", "1\n2\n", "1\ny\n")+"3\n", 1)
	// Both put lines at one place, or one does so beside a line that the other one changed.
	wantThree(t, "1\n2\n", "1\nx\n2\n", "1\ny\n2\n", "1\n"+clash(both(), "x\n", "", "y\n")+"2\n", 1)
	wantThree(t, "1\n2\n3\n", "1\nx\n2\n3\n", "1\ny\n3\n", "1\n"+clash(both(), "x\n2\n", "2\n", "y\n")+"3\n", 1)
	// A line that stays on one side alone is no anchor.
	wantClash(t, "1\n2\n3\n", "x\n2\ny\n", "z\n", "x\n2\ny\n", "1\n2\n3\n", "z\n")
}

// P21.1: changes ahead of the first anchor and behind the last one, that clash or not; several clashes are counted.
func TestEnds(t *testing.T) {
	wantThree(t, "1\n2\n3\n", "x\n1\n2\n3\n", "1\n2\n3\ny\n", "x\n1\n2\n3\ny\n", 0)
	wantThree(t, "1\n2\n3\n", "x\n2\n3\n", "y\n2\n3\n", clash(both(), "x\n", "1\n", "y\n")+"2\n3\n", 1)
	wantThree(t, "1\n2\n3\n", "1\n2\nx\n", "1\n2\ny\n", "1\n2\n"+clash(both(), "x\n", "3\n", "y\n"), 1)
	wantThree(t, "2\n", "x\n2\n", "y\n2\n", clash(both(), "x\n", "", "y\n")+"2\n", 1)
	wantThree(t, "2\n", "2\nx\n", "2\ny\n", "2\n"+clash(both(), "x\n", "", "y\n"), 1)
	wantThree(t, "1\n2\n3\n", "a\n2\nb\n", "c\n2\nd\n", clash(both(), "a\n", "1\n", "c\n")+"2\n"+clash(both(), "b\n", "3\n", "d\n"), 2)
	three := clash(both(), "a\n", "1\n", "d\n") + "2\n" + clash(both(), "b\n", "3\n", "e\n") + "4\n" + clash(both(), "c\n", "5\n", "f\n")
	wantThree(t, "1\n2\n3\n4\n5\n", "a\n2\nb\n4\nc\n", "d\n2\ne\n4\nf\n", three, 3)
	// One clash among changes that are made.
	mixed := "a\n2\n" + clash(both(), "b\n", "3\n", "e\n") + "4\nf\n"
	wantThree(t, "1\n2\n3\n4\n5\n", "a\n2\nb\n4\n5\n", "1\n2\ne\n4\nf\n", mixed, 1)
}

// P21.1: no line stays on both sides, though lines stay on one, or on each another one.
func TestNoAnchor(t *testing.T) {
	wantClash(t, "1\n2\n", "3\n4\n", "5\n", "3\n4\n", "1\n2\n", "5\n")
	wantClash(t, "1\n2\n", "1\n3\n", "4\n2\n", "1\n3\n", "1\n2\n", "4\n2\n")
	wantClash(t, "1\n2\n", "1\n2\n3\n", "4\n", "1\n2\n3\n", "1\n2\n", "4\n")
	// Lines that are alike on both sides are none, if base hasn't them.
	wantClash(t, "1\n", "2\nx\n", "3\nx\n", "2\nx\n", "1\n", "3\nx\n")
	wantClash(t, "", "2\nx\n", "3\nx\n", "2\nx\n", "", "3\nx\n")
}

// P21.1: a clash in which base, ours or theirs has no line, and one in which two have none can't be.
func TestClashWithout(t *testing.T) {
	wantThree(t, "a\nz\n", "a\n1\nz\n", "a\n2\nz\n", "a\n"+clash(both(), "1\n", "", "2\n")+"z\n", 1)
	wantThree(t, "a\n1\nz\n", "a\nz\n", "a\n2\nz\n", "a\n"+clash(both(), "", "1\n", "2\n")+"z\n", 1)
	wantThree(t, "a\n1\nz\n", "a\n2\nz\n", "a\nz\n", "a\n"+clash(both(), "2\n", "1\n", "")+"z\n", 1)
}

// P21.1: lines that come several times stay where the way has them.
func TestRepeated(t *testing.T) {
	wantThree(t, "x\nx\nx\n", "x\nx\n", "x\nx\nx\nx\n", "x\nx\n"+clash(both(), "", "x\n", "x\nx\n"), 1)
	wantThree(t, "x\nx\n", "x\nx\nx\n", "x\n", "x\n"+clash(both(), "x\nx\n", "x\n", ""), 1)
	wantThree(t, "x\nx\n", "x\nx\nx\n", "x\nx\nx\nx\n", "x\nx\n"+clash(both(), "x\n", "", "x\nx\n"), 1)
	wantThree(t, "x\ny\nx\n", "y\nx\n", "x\ny\nx\nx\n", "y\nx\nx\n", 0)
	wantThree(t, "a\n\nb\n\n", "a\n\nc\n\nb\n\n", "a\n\nb\n\nd\n", "a\n\nc\n\nb\n\nd\n", 0)
	// The first x stays on both sides: which one went can't be told.
	wantThree(t, "x\ny\nx\nz\n", "x\nz\n", "x\ny\nx\nz\nx\n", "x\nz\nx\n", 0)
}

// P21.1: a last line without its line feed, in base, ours, theirs, alone and together, in a clash and outside of one.
func TestNoLineFeed(t *testing.T) {
	for _, base := range []string{"1\n2\n", "1\n2"} {
		wantThree(t, base, base, base, base, 0)
		wantThree(t, base, "0\n"+base, base, "0\n"+base, 0)
		wantThree(t, base, "1\n", "1\n", "1\n", 0)
		wantThree(t, base, "1", "1", "1", 0)
		wantThree(t, base, "1\n3", "1\n3", "1\n3", 0)
		for _, ours := range []string{"1\n3\n", "1\n3"} {
			wantThree(t, base, ours, base, ours, 0)
			wantThree(t, base, base, ours, ours, 0)
			for _, theirs := range []string{"1\n4\n", "1\n4"} {
				wantThree(t, base, ours, theirs, "1\n"+clash(both(), "3\n", "2\n", "4\n"), 1)
			}
		}
	}
	// Only the line feed came, or went.
	wantThree(t, "1\n2", "1\n2\n", "1\n2", "1\n2\n", 0)
	wantThree(t, "1\n2\n", "1\n2", "1\n2\n", "1\n2", 0)
	wantThree(t, "1\n2\n", "1\n2", "1\n2", "1\n2", 0)
	wantThree(t, "0\n1\n2\n", "0\n1\n2", "x\n1\n2\n", "x\n1\n2", 0)
	wantThree(t, "1\n2", "1\n2\n", "1\n3", "1\n"+clash(both(), "2\n", "2\n", "3\n"), 1)
	wantThree(t, "1\n2", "1\n3", "1\n2\n", "1\n"+clash(both(), "3\n", "2\n", "2\n"), 1)
	wantThree(t, "1\n2\n", "1\n2", "1\n2\n3\n", "1\n"+clash(both(), "2\n", "2\n", "2\n3\n"), 1)
	// A clash ahead of an anchor that has no line feed, and a clash without lines of one text behind the last anchor.
	wantThree(t, "1\n2", "3\n2", "4\n2", clash(both(), "3\n", "1\n", "4\n")+"2", 1)
	wantThree(t, "1\n2", "1\n", "1\n3", "1\n"+clash(both(), "", "2\n", "3\n"), 1)
	wantThree(t, "1\n", "1\n2", "1\n3", "1\n"+clash(both(), "2\n", "", "3\n"), 1)
	// Lines with nothing but a line feed, and with other bytes that end lines elsewhere.
	wantThree(t, "\n", "\n\n", "x\n\n", "x\n\n\n", 0)
	wantClash(t, "1\r", "2\r\n", "3\x00", "2\r\n", "1\r\n", "3\x00\n")
}

// P21.1, P21.2: all short texts, against the chapter's words.
func TestAllShortTexts(t *testing.T) {
	texts := allTexts(3, "xy")
	for _, base := range texts {
		for _, ours := range texts {
			wantOne(t, base, base, ours, both(), ours, 0)
			wantOne(t, base, ours, base, both(), ours, 0)
			wantOne(t, base, ours, ours, both(), ours, 0)
			for _, theirs := range texts {
				wantPlain(t, base, ours, theirs)
			}
		}
	}
}

// P21.1, P21.2: texts by chance and such that were edited, against the chapter's words; some clash and some don't.
func TestByChance(t *testing.T) {
	r := rand.New(rand.NewSource(21))
	counts := map[int]int{}
	for range 2000 {
		kinds := 1 + r.Intn(20)
		base := anyText(r, 20, kinds)
		ours, theirs := edited(r, base, 5), edited(r, base, 5)
		if r.Intn(4) == 0 {
			theirs = anyText(r, 20, kinds)
		}
		wantPlain(t, base, ours, theirs)
		wantOne(t, base, base, theirs, both(), theirs, 0)
		wantOne(t, base, ours, base, both(), ours, 0)
		wantOne(t, base, theirs, theirs, both(), theirs, 0)
		_, n := plainThree(base, ours, theirs, both())
		counts[min(n, 3)]++
	}
	for n := range 4 {
		if counts[n] < 50 {
			t.Errorf("too little was tried: %v", counts)
		}
	}
}

// P21.2: where no two changes touch, both are made: each even line stays, what is done between is done by one side.
func TestApart(t *testing.T) {
	r := rand.New(rand.NewSource(212))
	for range 500 {
		var base, ours, theirs, wanted strings.Builder
		for i := range 2 + r.Intn(30) {
			line := "line " + strconv.Itoa(i) + "\n"
			change := []string{"", line + "behind " + line, "another " + line, "ahead of " + line + line, line}[r.Intn(5)]
			o, a, b, w := line, line, line, line
			if i%2 == 1 && r.Intn(2) == 0 {
				a, w = change, change
			} else if i%2 == 1 {
				b, w = change, change
			}
			base.WriteString(o)
			ours.WriteString(a)
			theirs.WriteString(b)
			wanted.WriteString(w)
		}
		wantThree(t, base.String(), ours.String(), theirs.String(), wanted.String(), 0)
	}
}
