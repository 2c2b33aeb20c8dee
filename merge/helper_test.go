package merge_test

import (
	"math/rand"
	"slices"
	"strconv"
	"strings"
	"testing"

	"codicil/api"
	"codicil/merge"
)

// both are the labels of texts that are merged, where nothing hangs on them.
func both() [2]string { return [2]string{"our label", "their label"} }

// clash answers how a piece is told that clashes, its lines having their line feeds.
func clash(labels [2]string, ours, base, theirs string) string {
	return "<<<<<<< " + labels[0] + "\n" + ours + "||||||| base\n" + base + "=======\n" + theirs + ">>>>>>> " + labels[1] + "\n"
}

// plainLines answers the lines of a text.
func plainLines(text string) []string {
	return slices.DeleteFunc(strings.SplitAfter(text, "\n"), func(line string) bool { return line == "" })
}

// plainStays answers, by the words of the chapter on diff, at which places the lines of a that stay stand in b.
func plainStays(a, b []string) map[int]int {
	rest := map[[2]int]int{}
	for x := len(a); x >= 0; x-- {
		for y := len(b); y >= 0; y-- {
			n := len(a) - x + len(b) - y
			if x < len(a) && y < len(b) {
				n = 1 + min(rest[[2]int{x + 1, y}], rest[[2]int{x, y + 1}])
				if a[x] == b[y] {
					n = min(n, rest[[2]int{x + 1, y + 1}])
				}
			}
			rest[[2]int{x, y}] = n
		}
	}
	stays := map[int]int{}
	for x, y := 0, 0; x < len(a) && y < len(b); {
		if a[x] == b[y] {
			stays[x] = y
			x, y = x+1, y+1
		} else if rest[[2]int{x + 1, y}] <= rest[[2]int{x, y + 1}] {
			x++
		} else {
			y++
		}
	}
	return stays
}

// plainPiece answers by the chapter's words what comes of a piece, and how many times it clashes.
func plainPiece(labels [2]string, base, ours, theirs string) (string, int) {
	switch {
	case ours == base:
		return theirs, 0
	case theirs == base, ours == theirs:
		return ours, 0
	}
	ended := func(text string) string {
		if text != "" {
			text = strings.TrimSuffix(text, "\n") + "\n"
		}
		return text
	}
	return clash(labels, ended(ours), ended(base), ended(theirs)), 1
}

// plainThree answers by the chapter's words what Three does of texts that have no error.
func plainThree(base, ours, theirs string, labels [2]string) (string, int) {
	o, a, b := plainLines(base), plainLines(ours), plainLines(theirs)
	inOurs, inTheirs := plainStays(o, a), plainStays(o, b)
	anchors := [][3]int{{-1, -1, -1}}
	for x := range o {
		y, stays := inOurs[x]
		z, too := inTheirs[x]
		if stays && too {
			anchors = append(anchors, [3]int{x, y, z})
		}
	}
	anchors = append(anchors, [3]int{len(o), len(a), len(b)})
	text, clashes := "", 0
	for i, to := range anchors[1:] {
		from := anchors[i]
		between := func(lines []string, side int) string { return strings.Join(lines[from[side]+1:to[side]], "") }
		told, n := plainPiece(labels, between(o, 0), between(a, 1), between(b, 2))
		text, clashes = text+told, clashes+n
		if to[0] < len(o) {
			text += o[to[0]]
		}
	}
	return text, clashes
}

// wantOne fails unless Three answers that text and so many clashes.
func wantOne(t *testing.T, base, ours, theirs string, labels [2]string, wanted string, clashes int) {
	t.Helper()
	text, n, e := merge.Three([]byte(base), []byte(ours), []byte(theirs), labels)
	if e != api.OK || string(text) != wanted || n != clashes {
		t.Errorf("Three(%.60q, %.60q, %.60q): %.300q, %d clashes, error %d, wanted %.300q, %d", base, ours, theirs, text, n, e, wanted, clashes)
	}
}

// wantThree fails unless Three answers that text and so many clashes, which the chapter's words do, too, and the same with
// both sides exchanged (P21.2).
func wantThree(t *testing.T, base, ours, theirs string, wanted string, clashes int) {
	t.Helper()
	if text, n := plainThree(base, ours, theirs, both()); text != wanted || n != clashes {
		t.Errorf("by the chapter's words Three(%.60q, %.60q, %.60q) is %.300q, %d clashes", base, ours, theirs, text, n)
	}
	wantPlain(t, base, ours, theirs)
}

// wantPlain fails unless Three answers what the chapter's words do; with both sides and labels exchanged as many clash, and
// without clashes the same comes out.
func wantPlain(t *testing.T, base, ours, theirs string) {
	t.Helper()
	labels := both()
	text, clashes := plainThree(base, ours, theirs, labels)
	wantOne(t, base, ours, theirs, labels, text, clashes)
	labels[0], labels[1] = labels[1], labels[0]
	turned, n := plainThree(base, theirs, ours, labels)
	wantOne(t, base, theirs, ours, labels, turned, n)
	if n != clashes || n == 0 && turned != text {
		t.Errorf("Three(%.60q, %.60q, %.60q) is %.300q with %d clashes, exchanged %.300q with %d", base, ours, theirs, text, clashes, turned, n)
	}
}

// wantClash fails unless the whole is one clash of these lists, which have their line feeds.
func wantClash(t *testing.T, base, ours, theirs string, ourLines, baseLines, theirLines string) {
	t.Helper()
	wantThree(t, base, ours, theirs, clash(both(), ourLines, baseLines, theirLines), 1)
}

// wantError fails unless Three answers that error alone.
func wantError(t *testing.T, what string, base, ours, theirs string, labels [2]string, wanted api.Errno) {
	t.Helper()
	text, n, e := merge.Three([]byte(base), []byte(ours), []byte(theirs), labels)
	if len(text) != 0 || n != 0 || e != wanted {
		t.Errorf("%s: %d bytes, %d clashes, error %d, wanted error %d alone", what, len(text), n, e, wanted)
	}
}

// allTexts answers all texts of up to n lines that are among these letters, the last line with and without its line feed.
func allTexts(n int, letters string) []string {
	lists := []string{""}
	for from := 0; n > 0; n-- {
		to := len(lists)
		for _, text := range lists[from:to] {
			for _, letter := range strings.Split(letters, "") {
				lists = append(lists, text+letter+"\n")
			}
		}
		from = to
	}
	for _, text := range lists[1:] {
		lists = append(lists, strings.TrimSuffix(text, "\n"))
	}
	return lists
}

// anyText answers up to n lines by chance, of so many kinds; the last one may have no line feed.
func anyText(r *rand.Rand, n, kinds int) string {
	text := ""
	for range r.Intn(n + 1) {
		text += "line " + strconv.Itoa(r.Intn(kinds)) + "\n"
	}
	if r.Intn(4) == 0 {
		text = strings.TrimSuffix(text, "\n")
	}
	return text
}

// edited answers a text of which some lines went or became others by chance, and among which some came.
func edited(r *rand.Rand, text string, n int) string {
	lines := plainLines(text)
	for range r.Intn(n + 1) {
		at := r.Intn(len(lines) + 1)
		came := "came " + strconv.Itoa(r.Intn(4)) + "\n"
		switch {
		case at == len(lines) || r.Intn(3) == 0:
			lines = slices.Insert(lines, at, came)
		case r.Intn(2) == 0:
			lines = slices.Delete(lines, at, at+1)
		default:
			lines[at] = came
		}
	}
	for i, line := range lines[:max(0, len(lines)-1)] {
		lines[i] = strings.TrimSuffix(line, "\n") + "\n"
	}
	return strings.Join(lines, "")
}

// counted answers n lines, none of which is another one; the word in front makes them others than those of another word.
func counted(word string, n int) string {
	var text strings.Builder
	for i := range n {
		text.WriteString(word + strconv.Itoa(i) + "\n")
	}
	return text.String()
}
