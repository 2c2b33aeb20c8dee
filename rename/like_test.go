package rename_test

import (
	"math/rand"
	"strings"
	"testing"

	"codicil/rename"
)

// P20.2: the chapter's examples.
func TestLikeExamples(t *testing.T) {
	wantLike(t, "a\nb\n", "a\nc\n", 50)
	wantLike(t, "", "", 100)
	wantLike(t, "a", "", 0)
	if rename.Like(nil, nil) != 100 || rename.Like(nil, []byte{}) != 100 || rename.Like([]byte{}, nil) != 100 {
		t.Error("Like of no bytes isn't 100")
	}
}

// P20.2: equal texts, one without bytes, and such with nothing in common.
func TestLike(t *testing.T) {
	for _, text := range []string{"a", "\n", "a\n", "a\nb", "\x00", strings.Repeat("line\n", 500)} {
		wantLike(t, text, text, 100)
		wantLike(t, text, "", 0)
		wantLike(t, "", text, 0)
		wantLike(t, text, "other", 0)
	}
	wantLike(t, "a", "a\n", 0)
	wantLike(t, "ab", "ac", 0)
	wantLike(t, "a\nb", "a\nb\n", 57)
	wantLike(t, "a\n", "a\nb\n", 66)
	wantLike(t, "a\nb\nc\n", "a\nb\nd\n", 66)
	wantLike(t, "abc\nd\n", "d\nabc\n", 33)
	wantLike(t, "\n\n\n", "\n", 50)
	wantLike(t, "x\ny\n", "y\nx\n", 50)
	wantLike(t, "same\nx\n", "y\nsame\n", 71)
}

// P20.2: bytes are counted, not lines, and those that stay on the way from the first to the second.
func TestLikeOneWay(t *testing.T) {
	wantLike(t, "x\nlonger\n", "longer\nx\n", 77)
	wantLike(t, "longer\nx\n", "x\nlonger\n", 22)
	wantLike(t, "long line\n1\n2\n", "long line\n3\n4\n", 71)
	wantLike(t, "1\n"+strings.Repeat("x", 1000)+"\n", "1\n", 0)
	wantLike(t, "1\n"+strings.Repeat("x", 396)+"\n", "1\n", 0)
	wantLike(t, "1\n"+strings.Repeat("x", 395)+"\n", "1\n", 1)
}

// P20.2: texts that are not the same come to 99 at most.
func TestLikeAtMost99(t *testing.T) {
	long := strings.Repeat(strings.Repeat("x", 99)+"\n", 900)
	wantLike(t, long, long+"x", 99)
	wantLike(t, long+"\n", long, 99)
	wantLike(t, long, "\n"+long, 99)
	wantLike(t, long, long, 100)
	huge := strings.Repeat("x", 1<<20)
	wantLike(t, huge+"\n", huge+"\n1", 99)
	wantLike(t, huge+"\n", huge, 0)
}

// P20.2: MaxLines lines, and one more, with and without a line feed at the end.
func TestLikeMaxLines(t *testing.T) {
	most := strings.Repeat("line\n", 1000)
	for _, x := range []struct {
		a, b   string
		wanted int
	}{
		{most, strings.Repeat("line\n", 999) + "line", 99},
		{most, strings.Repeat("line\n", 500), 66},
		{most, "line\n", 0},
		{most, strings.Repeat("line\n", 10), 1},
		{most, most[:5*999] + "x", 99},
		{most, most + "x", 0},
		{most + "x", most, 0},
		{most, most + "line\n", 0},
		{most + "\n", most, 0},
		{most + "x", most + "y", 0},
		{most + "\n", most + "\n\n", 0},
		{strings.Repeat("\n", 1000), strings.Repeat("\n", 999), 99},
		{strings.Repeat("\n", 1001), strings.Repeat("\n", 1000), 0},
		{strings.Repeat("\n", 1000) + "x", strings.Repeat("\n", 1000), 0},
		{most, most, 100},
		{most + "x", most + "x", 100},
		{most + most, most + most, 100},
	} {
		wantLike(t, x.a, x.b, x.wanted)
	}
	lots := strings.Repeat("\n", 1<<20)
	if like := rename.Like([]byte(lots), []byte(lots+"x")); like != 0 {
		t.Errorf("Like of a million lines: %d", like)
	}
	if like := rename.Like([]byte(lots), []byte(lots)); like != 100 {
		t.Errorf("Like of a million equal lines: %d", like)
	}
}

// P20.2: texts by chance, against the chapter's words.
func TestLikeByChance(t *testing.T) {
	r := rand.New(rand.NewSource(202))
	seen := map[int]int{}
	for range 20000 {
		a, b := anyText(r, 12), anyText(r, 12)
		like := plainLike(a, b)
		seen[like]++
		wantLike(t, a, b, like)
	}
	if len(seen) < 60 {
		t.Errorf("too little was tried: %v", seen)
	}
}
