package diff_test

import (
	"fmt"
	"math"
	"math/rand"
	"slices"
	"strconv"
	"strings"
	"testing"

	"codicil/api"
	"codicil/diff"
)

// list answers the letters of a text as lines.
func list(letters string) []string {
	var lines []string
	for _, letter := range strings.Split(letters, "") {
		lines = append(lines, letter)
	}
	return lines
}

// counted answers n lines, none of which is another one; the word in front makes them others than those of another word.
func counted(word string, n int) []string {
	var lines []string
	for i := range n {
		lines = append(lines, word+strconv.Itoa(i)+"\n")
	}
	return lines
}

// allLists answers all lists of up to n lines that are among these.
func allLists(n int, lines ...string) [][]string {
	all := [][]string{nil}
	for from := 0; n > 0; n-- {
		to := len(all)
		for _, l := range all[from:to] {
			for _, line := range lines {
				all = append(all, append(slices.Clone(l), line))
			}
		}
		from = to
	}
	return all
}

// anyList answers up to n lines by chance, of so many kinds.
func anyList(r *rand.Rand, n, kinds int) []string {
	var lines []string
	for range r.Intn(n + 1) {
		lines = append(lines, "line "+strconv.Itoa(r.Intn(kinds))+strings.Repeat("\n", r.Intn(2)))
	}
	return lines
}

// edited answers lines of which some went or became others by chance, and among which some came.
func edited(r *rand.Rand, lines []string, n int) []string {
	made := slices.Clone(lines)
	for range n {
		at := r.Intn(len(made) + 1)
		came := []string{"came " + strconv.Itoa(r.Intn(5)) + "\n"}
		switch {
		case at == len(made) || r.Intn(3) == 0:
			made = slices.Insert(made, at, came...)
		case r.Intn(2) == 0:
			made = slices.Delete(made, at, at+1)
		default:
			made = slices.Replace(made, at, at+1, came...)
		}
	}
	return made
}

// leastOfAll answers how many steps by 1 and by i the best of all walks has, each one being tried.
func leastOfAll(a, b []string) int {
	least := len(a) + len(b)
	if len(a) > 0 {
		least = min(least, 1+leastOfAll(a[1:], b))
	}
	if len(b) > 0 {
		least = min(least, 1+leastOfAll(a, b[1:]))
	}
	if len(a) > 0 && len(b) > 0 && a[0] == b[0] {
		least = min(least, leastOfAll(a[1:], b[1:]))
	}
	return least
}

// model is a plane by the chapter's words: the rest of each point.
type model struct {
	a, b []string
	rest map[[2]int]int
}

// newModel reckons the rests; each is the least over all steps that can be made.
func newModel(a, b []string) model {
	m := model{a: a, b: b, rest: map[[2]int]int{}}
	for x := len(a); x >= 0; x-- {
		for y := len(b); y >= 0; y-- {
			least := math.MaxInt
			if x == len(a) && y == len(b) {
				least = 0
			}
			if x < len(a) {
				least = min(least, 1+m.rest[[2]int{x + 1, y}])
			}
			if y < len(b) {
				least = min(least, 1+m.rest[[2]int{x, y + 1}])
			}
			if x < len(a) && y < len(b) && a[x] == b[y] {
				least = min(least, m.rest[[2]int{x + 1, y + 1}])
			}
			m.rest[[2]int{x, y}] = least
		}
	}
	return m
}

// way answers the points of the way by the chapter's words.
func (m model) way() [][2]int {
	x, y := 0, 0
	way := [][2]int{{0, 0}}
	for x < len(m.a) || y < len(m.b) {
		if x < len(m.a) && y < len(m.b) && m.a[x] == m.b[y] {
			x, y = x+1, y+1
		} else if x < len(m.a) && (y == len(m.b) || m.rest[[2]int{x + 1, y}] <= m.rest[[2]int{x, y + 1}]) {
			x++
		} else {
			y++
		}
		way = append(way, [2]int{x, y})
	}
	return way
}

// point answers a point of the plane as a complex number.
func point(p [2]int) complex128 { return complex(float64(p[0]), float64(p[1])) }

// points answers the way as complex numbers.
func (m model) points() []complex128 {
	var list []complex128
	for _, p := range m.way() {
		list = append(list, point(p))
	}
	return list
}

// hunks answers the hunks by the chapter's words: the way is cut at each step by 1 + i, and pieces without a step are none.
func (m model) hunks() []diff.Hunk {
	pieces := [][][2]int{nil}
	for i, p := range m.way() {
		if i > 0 && m.stays(i) {
			pieces = append(pieces, nil)
		}
		pieces[len(pieces)-1] = append(pieces[len(pieces)-1], p)
	}
	var list []diff.Hunk
	for _, piece := range pieces {
		if len(piece) > 1 {
			list = append(list, diff.Hunk{From: point(piece[0]), To: point(piece[len(piece)-1])})
		}
	}
	return list
}

// stays answers whether the step to the point i of the way is one by 1 + i.
func (m model) stays(i int) bool {
	way := m.way()
	return way[i][0] > way[i-1][0] && way[i][1] > way[i-1][1]
}

// text tells the way by the chapter's words.
func (m model) text() string {
	told := ""
	way := m.way()
	for i, p := range way[1:] {
		sign, line := "", ""
		switch from := way[i]; {
		case m.stays(i + 1):
			sign, line = " ", m.a[from[0]]
		case p[0] > from[0]:
			sign, line = "-", m.a[from[0]]
		default:
			sign, line = "+", m.b[from[1]]
		}
		told += sign + line
		if line == "" || line[len(line)-1] != '\n' {
			told += "\n\\\n"
		}
	}
	return told
}

// wantAll fails unless Way, Rest, Hunks, Apply and Text answer of both lists what the chapter's words do.
func wantAll(t *testing.T, a, b []string) {
	t.Helper()
	m := newModel(a, b)
	wantWay(t, a, b, m.points()...)
	wantRest(t, a, b, m.rest[[2]int{}])
	wantHunks(t, a, b, m.hunks()...)
	wantText(t, a, b, m.text())
	wantApplied(t, "its own hunks", a, b, m.hunks(), b...)
}

// positive answers whether both parts of a point are whole numbers, and none is -0.
func positive(p complex128) bool {
	for _, part := range []float64{real(p), imag(p)} {
		if part != math.Trunc(part) || math.Signbit(part) {
			return false
		}
	}
	return true
}

// wantWay fails unless Way answers these points, with parts that are whole numbers and +0.
func wantWay(t *testing.T, a, b []string, wanted ...complex128) {
	t.Helper()
	way, e := diff.Way(a, b)
	if e != api.OK || !slices.Equal(way, wanted) {
		t.Errorf("Way(%.100q, %.100q): %s, error %d, wanted %s", a, b, brief(way), e, brief(wanted))
	}
	if i := slices.IndexFunc(way, func(p complex128) bool { return !positive(p) }); i >= 0 {
		t.Errorf("Way(%.100q, %.100q): the point %v", a, b, way[i])
	}
}

// wantRest fails unless Rest answers that number, both ways.
func wantRest(t *testing.T, a, b []string, wanted int) {
	t.Helper()
	if n, e := diff.Rest(a, b); e != api.OK || n != wanted {
		t.Errorf("Rest(%.100q, %.100q): %d, error %d, wanted %d", a, b, n, e, wanted)
	}
	if n, e := diff.Rest(b, a); e != api.OK || n != wanted {
		t.Errorf("Rest(%.100q, %.100q): %d, error %d, wanted %d as the other way round", b, a, n, e, wanted)
	}
}

// wantHunks fails unless Hunks answers these, with parts that are whole numbers and +0.
func wantHunks(t *testing.T, a, b []string, wanted ...diff.Hunk) {
	t.Helper()
	hunks, e := diff.Hunks(a, b)
	if e != api.OK || !slices.Equal(hunks, wanted) {
		t.Errorf("Hunks(%.100q, %.100q): %s, error %d, wanted %s", a, b, brief(hunks), e, brief(wanted))
	}
	for _, h := range hunks {
		if !positive(h.From) || !positive(h.To) {
			t.Errorf("Hunks(%.100q, %.100q): %v", a, b, h)
		}
	}
}

// wantText fails unless Text tells this.
func wantText(t *testing.T, a, b []string, wanted string) {
	t.Helper()
	if s, e := diff.Text(a, b); e != api.OK || s != wanted {
		t.Errorf("Text(%.100q, %.100q): %.300q, error %d, wanted %.300q", a, b, s, e, wanted)
	}
}

// wantApplied fails unless Apply answers these lines.
func wantApplied(t *testing.T, what string, a, b []string, hunks []diff.Hunk, wanted ...string) {
	t.Helper()
	if lines, e := diff.Apply(a, b, hunks); e != api.OK || !slices.Equal(lines, wanted) {
		t.Errorf("Apply(%.100q, %.100q), %s %s: %.300q, error %d, wanted %.300q", a, b, what, brief(hunks), lines, e, wanted)
	}
}

// wantNotApplied fails unless Apply answers that error alone.
func wantNotApplied(t *testing.T, what string, a, b []string, hunks []diff.Hunk, wanted api.Errno) {
	t.Helper()
	if lines, e := diff.Apply(a, b, hunks); len(lines) != 0 || e != wanted {
		t.Errorf("Apply(%.100q, %.100q), %s %s: %.300q, error %d, wanted error %d alone", a, b, what, brief(hunks), lines, e, wanted)
	}
}

// brief tells a list, cut short.
func brief(list any) string {
	told := fmt.Sprint(list)
	return told[:min(len(told), 400)]
}
