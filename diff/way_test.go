package diff_test

import (
	"math/rand"
	"slices"
	"strings"
	"testing"

	"codicil/api"
	"codicil/diff"
)

// wantLines fails unless Lines answers these, which are the text if they are put together again.
func wantLines(t *testing.T, text string, wanted ...string) {
	t.Helper()
	lines := diff.Lines([]byte(text))
	if !slices.Equal(lines, wanted) || strings.Join(lines, "") != text {
		t.Errorf("Lines(%.100q): %.300q, wanted %.300q", text, lines, wanted)
	}
}

// P19.1: a line ends with its line feed, and the last one is there if it has a byte.
func TestLines(t *testing.T) {
	wantLines(t, "")
	wantLines(t, "\n", "\n")
	wantLines(t, "\n\n\n", "\n", "\n", "\n")
	wantLines(t, "a", "a")
	wantLines(t, "a\n", "a\n")
	wantLines(t, "a\nb", "a\n", "b")
	wantLines(t, "a\nb\n", "a\n", "b\n")
	wantLines(t, "a\n\nb", "a\n", "\n", "b")
	wantLines(t, "\na", "\n", "a")
	wantLines(t, "\n\x00", "\n", "\x00")
	wantLines(t, "a\r\nb\rc\vd\u2028e\u0085f", "a\r\n", "b\rc\vd\u2028e\u0085f")
	wantLines(t, "\xff\xfe\n\x00\n\xff", "\xff\xfe\n", "\x00\n", "\xff")
	wantLines(t, strings.Repeat("x", 1<<20)+"\ny", strings.Repeat("x", 1<<20)+"\n", "y")
	wantLines(t, strings.Repeat("\n", 5000), slices.Repeat([]string{"\n"}, 5000)...)
	if len(diff.Lines(nil)) != 0 || len(diff.Lines([]byte{})) != 0 {
		t.Error("Lines of nothing: there are some")
	}
}

// P19.1: texts by chance; all lines but the last one have one line feed, at their end.
func TestLinesByChance(t *testing.T) {
	r := rand.New(rand.NewSource(19))
	for range 2000 {
		text := make([]byte, r.Intn(30))
		for i := range text {
			text[i] = "\n\nab\x00\r"[r.Intn(6)]
		}
		wanted := strings.SplitAfter(string(text), "\n")
		if wanted[len(wanted)-1] == "" {
			wanted = wanted[:len(wanted)-1]
		}
		wantLines(t, string(text), wanted...)
	}
}

// P19.1 to P19.3: the chapter's examples.
func TestExamples(t *testing.T) {
	a, b := list("xy"), list("yz")
	wantWay(t, a, b, 0, 1, 2+1i, 2+2i)
	wantRest(t, a, b, 2)
	wantHunks(t, a, b, diff.Hunk{From: 0, To: 1}, diff.Hunk{From: 2 + 1i, To: 2 + 2i})
	wantText(t, []string{"x\n", "y\n"}, []string{"y\n", "z\n"}, "-x\n y\n+z\n")
	wantText(t, a, b, "-x\n\\\n y\n\\\n+z\n\\\n")
	wantWay(t, nil, nil, 0)
}

// P19.1: empty lists, equal ones, and such with nothing in common.
func TestWayEdges(t *testing.T) {
	none := [][]string{nil, {}}
	for _, a := range none {
		for _, b := range none {
			wantWay(t, a, b, 0)
			wantRest(t, a, b, 0)
		}
		wantWay(t, a, list("xy"), 0, 1i, 2i)
		wantRest(t, a, list("xy"), 2)
		wantWay(t, list("xyx"), a, 0, 1, 2, 3)
		wantRest(t, list("xyx"), a, 3)
	}
	wantWay(t, list("x"), list("x"), 0, 1+1i)
	wantWay(t, list("xyx"), list("xyx"), 0, 1+1i, 2+2i, 3+3i)
	wantRest(t, list("xyx"), list("xyx"), 0)
	// Nothing is alike: behind a step by 1 and behind one by i there is the same rest.
	wantWay(t, list("x"), list("y"), 0, 1, 1+1i)
	wantWay(t, list("xy"), list("zw"), 0, 1, 2, 2+1i, 2+2i)
	wantRest(t, list("xy"), list("zw"), 4)
}

// P19.1: steps by 1 and by i with the same rest behind them, and others.
func TestWayTies(t *testing.T) {
	wantWay(t, list("xy"), list("yx"), 0, 1, 2+1i, 2+2i)
	wantWay(t, list("axb"), list("bxa"), 0, 1, 2, 3+1i, 3+2i, 3+3i)
	// The rest behind a step by i is less.
	wantWay(t, list("x"), list("yx"), 0, 1i, 1+2i)
	wantWay(t, list("xyz"), list("zxy"), 0, 1i, 1+2i, 2+3i, 3+3i)
	// The rest behind a step by 1 is less.
	wantWay(t, list("yx"), list("x"), 0, 1, 2+1i)
	wantWay(t, list("xyz"), list("yzx"), 0, 1, 2+1i, 3+2i, 3+3i)
	wantRest(t, list("xyz"), list("yzx"), 2)
	// What can stay does, though it could do so later, too.
	wantWay(t, list("x"), list("xx"), 0, 1+1i, 1+2i)
	wantWay(t, list("xx"), list("x"), 0, 1+1i, 2+1i)
	wantWay(t, list("xyx"), list("x"), 0, 1+1i, 2+1i, 3+1i)
	wantWay(t, list("xxxy"), list("xxy"), 0, 1+1i, 2+2i, 3+2i, 4+3i)
	wantWay(t, list("abcabba"), list("cbabac"), 0, 1, 2, 3+1i, 4+1i, 5+2i, 5+3i, 6+4i, 7+5i, 7+6i)
	wantRest(t, list("abcabba"), list("cbabac"), 5)
}

// P19.1: any texts are lines: without bytes, with line feeds within, and alike just where all bytes are.
func TestAnyTexts(t *testing.T) {
	wantWay(t, []string{""}, []string{""}, 0, 1+1i)
	wantWay(t, []string{""}, nil, 0, 1)
	wantWay(t, []string{"", "a"}, []string{"a", ""}, 0, 1, 2+1i, 2+2i)
	wantWay(t, []string{"a\nb"}, []string{"a\n", "b"}, 0, 1, 1+1i, 1+2i)
	wantWay(t, []string{"a\nb\n", "\n\n"}, []string{"\n\n", "a\nb\n"}, 0, 1, 2+1i, 2+2i)
	for _, line := range []string{"a", "a\n", "a\r\n", "A\n", "a \n", "\x00", "\xff", "é", "e\u0301"} {
		for _, other := range []string{"", "\n", "a\n\n", "\x00\x00", "\xfe", "\ufffd"} {
			wantWay(t, []string{line}, []string{other}, 0, 1, 1+1i)
			wantWay(t, []string{line, other}, []string{line, other}, 0, 1+1i, 2+2i)
		}
	}
	long := strings.Repeat("x", 100000)
	wantWay(t, []string{long + "a", long + "b"}, []string{long + "b", long + "c"}, 0, 1, 2+1i, 2+2i)
}

// P19.1 to P19.4: all short lists, against the chapter's words; no walk has fewer steps by 1 and by i.
func TestAllShortLists(t *testing.T) {
	for _, all := range [][][]string{allLists(5, "x\n", "y"), allLists(3, "x", "y\n", "")} {
		for _, a := range all {
			for _, b := range all {
				wantAll(t, a, b)
				wantRest(t, a, b, leastOfAll(a, b))
			}
		}
	}
}

// P19.4: the way has Rest steps by 1 or i, Rest is 0 just where both are alike, and at most the sum by way of a third list.
func TestRestByChance(t *testing.T) {
	r := rand.New(rand.NewSource(194))
	for range 3000 {
		var l [3][]string
		for i := range l {
			l[i] = anyList(r, 12, 1+r.Intn(4))
		}
		var rests [3]int
		for i, a := range l {
			b := l[(i+1)%3]
			rests[i], _ = diff.Rest(a, b)
			way, _ := diff.Way(a, b)
			if n := changing(way); n != rests[i] {
				t.Errorf("Way(%q, %q) has %d steps by 1 or i, Rest is %d", a, b, n, rests[i])
			}
			if (rests[i] == 0) != slices.Equal(a, b) {
				t.Errorf("Rest(%q, %q) is %d", a, b, rests[i])
			}
		}
		for i := range rests {
			if rests[i] > rests[(i+1)%3]+rests[(i+2)%3] {
				t.Errorf("%q: the rests %v", l, rests)
			}
		}
	}
}

// changing answers how many steps of a way are by 1 or by i.
func changing(way []complex128) int {
	n := 0
	for i := 1; i < len(way); i++ {
		if step := way[i] - way[i-1]; step == 1 || step == 1i {
			n++
		}
	}
	return n
}

// P19.1 to P19.4: longer lists by chance, and such that were edited, against the chapter's words.
func TestByChance(t *testing.T) {
	r := rand.New(rand.NewSource(19))
	for range 300 {
		a := anyList(r, 40, 1+r.Intn(30))
		wantAll(t, a, anyList(r, 40, 1+r.Intn(30)))
		wantAll(t, a, edited(r, a, r.Intn(8)))
	}
}

// P19.1 to P19.4: as many lines as may be: equal ones, some changed, nothing in common, one line over and over.
func TestMaxLines(t *testing.T) {
	a, b := counted("a", api.MaxLines), counted("b", api.MaxLines)
	wantRest(t, a, a, 0)
	wantHunks(t, a, a)
	wantText(t, a, a, " "+strings.Join(a, " "))
	wantRest(t, a, b, 2*api.MaxLines)
	wantHunks(t, a, b, diff.Hunk{From: 0, To: 1000 + 1000i})
	wantText(t, a, b, "-"+strings.Join(a, "-")+"+"+strings.Join(b, "+"))
	way, _ := diff.Way(a, b)
	for i, p := range way {
		if p != complex(float64(min(i, 1000)), float64(max(i-1000, 0))) {
			t.Fatalf("Way of lists with nothing in common: the point %d is %v", i, p)
		}
	}
	if len(way) != 2001 {
		t.Errorf("Way of lists with nothing in common has %d points", len(way))
	}
	wantRest(t, a, nil, 1000)
	wantHunks(t, nil, a, diff.Hunk{From: 0, To: 1000i})
	changed := slices.Clone(a)
	changed[0], changed[500], changed[999] = "x", "y", "z"
	wantHunks(t, a, changed, diff.Hunk{From: 0, To: 1 + 1i}, diff.Hunk{From: 500 + 500i, To: 501 + 501i}, diff.Hunk{From: 999 + 999i, To: 1000 + 1000i})
	wantRest(t, slices.Repeat(list("x"), 1000), slices.Repeat(list("x"), 400), 600)
	wantHunks(t, slices.Repeat(list("x"), 1000), slices.Repeat(list("x"), 400), diff.Hunk{From: 400 + 400i, To: 1000 + 400i})
	wantRest(t, slices.Repeat(list("xy"), 500), slices.Repeat(list("yx"), 500), 2)
	r := rand.New(rand.NewSource(1000))
	wantAllLong(t, a, edited(r, a, 40)[:990])
	wantAllLong(t, anyList(r, 1000, 3), anyList(r, 1000, 3))
}

// wantAllLong fails unless what is answered of both lists is the way by the chapter's words, Apply's lines being b.
func wantAllLong(t *testing.T, a, b []string) {
	t.Helper()
	m := newModel(a, b)
	wantWay(t, a, b, m.points()...)
	wantRest(t, a, b, m.rest[[2]int{}])
	hunks, _ := diff.Hunks(a, b)
	wantApplied(t, "its own hunks", a, b, hunks, b...)
}

// P19.1 to P19.3: one line too many, on either side and on both, whatever the other list is.
func TestTooLong(t *testing.T) {
	most, long := counted("a", api.MaxLines), counted("a", api.MaxLines+1)
	for _, x := range [][2][]string{{long, nil}, {nil, long}, {long, most}, {most, long}, {long, long}, {long, counted("b", 5000)}, {slices.Repeat([]string{""}, 1001), {""}}} {
		a, b := x[0], x[1]
		if way, e := diff.Way(a, b); len(way) != 0 || e != api.ErrLong {
			t.Errorf("Way of %d and %d lines: %d points, error %d", len(a), len(b), len(way), e)
		}
		if n, e := diff.Rest(a, b); n != 0 || e != api.ErrLong {
			t.Errorf("Rest of %d and %d lines: %d, error %d", len(a), len(b), n, e)
		}
		if hunks, e := diff.Hunks(a, b); len(hunks) != 0 || e != api.ErrLong {
			t.Errorf("Hunks of %d and %d lines: %d, error %d", len(a), len(b), len(hunks), e)
		}
		if s, e := diff.Text(a, b); s != "" || e != api.ErrLong {
			t.Errorf("Text of %d and %d lines: %.50q, error %d", len(a), len(b), s, e)
		}
		for _, hunks := range [][]diff.Hunk{nil, {{From: 0, To: endOf(a, b)}}, {{From: -1, To: 1}}, {{}}} {
			wantNotApplied(t, "too many lines", a, b, hunks, api.ErrLong)
		}
	}
}

// endOf answers the last point of two lists' plane.
func endOf(a, b []string) complex128 { return complex(float64(len(a)), float64(len(b))) }

// P19.3: a line without its line feed has one put behind it, and is marked, wherever it stands.
func TestText(t *testing.T) {
	wantText(t, nil, nil, "")
	wantText(t, []string{"a\n"}, nil, "-a\n")
	wantText(t, nil, []string{"a\n"}, "+a\n")
	wantText(t, []string{"a\n"}, []string{"a\n"}, " a\n")
	wantText(t, []string{"a"}, nil, "-a\n\\\n")
	wantText(t, nil, []string{"a"}, "+a\n\\\n")
	wantText(t, []string{"a"}, []string{"a"}, " a\n\\\n")
	wantText(t, []string{"a"}, []string{"a\n"}, "-a\n\\\n+a\n")
	wantText(t, []string{"a", "b\n"}, []string{"b\n", "c", "d\n"}, "-a\n\\\n b\n+c\n\\\n+d\n")
	wantText(t, []string{""}, []string{"", "\n"}, " \n\\\n+\n")
	wantText(t, []string{"a\nb", "c\nd\n"}, []string{"a\nb"}, " a\nb\n\\\n-c\nd\n")
	wantText(t, []string{"\n", "\n"}, []string{"\n"}, " \n-\n")
	wantText(t, []string{"a\r", "\\"}, []string{"a\r", "-"}, " a\r\n\\\n-\\\n\\\n+-\n\\\n")
	a, b := diff.Lines([]byte("one\ntwo\nthree\nfour")), diff.Lines([]byte("zero\none\nthree\n4\n"))
	wantText(t, a, b, "+zero\n one\n-two\n three\n-four\n\\\n+4\n")
}

// P2: what is asked again has the same answer, whatever was asked between.
func TestAnsweredAgain(t *testing.T) {
	a, b := list("abcabba"), list("cbabac")
	first, _ := diff.Text(a, b)
	for range 20 {
		diff.Way(b, a)
		diff.Rest(counted("x", 1001), a)
		diff.Hunks(nil, nil)
		wantText(t, a, b, first)
	}
}
