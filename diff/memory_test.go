package diff_test

import (
	"slices"
	"strings"
	"testing"
	"unsafe"

	"codicil/diff"
)

// crowded answers lines in memory of their own, whose list has spare room.
func crowded(lines []string) []string {
	l := make([]string, 0, len(lines)+3)
	for _, line := range lines {
		l = append(l, strings.Clone(line))
	}
	for i := range l[len(l):cap(l)] {
		l[len(l):cap(l)][i] = "spare"
	}
	return l
}

// wantCrowded fails if a list made by crowded was changed, or its spare room.
func wantCrowded(t *testing.T, what string, l, was []string) {
	t.Helper()
	if !slices.Equal(l, was) || slices.ContainsFunc(l[len(l):cap(l)], func(s string) bool { return s != "spare" }) {
		t.Errorf("%s changes its argument", what)
	}
}

// sharing answers whether two texts share memory. Go keeps each text of one byte once, so those tell nothing.
func sharing(a, b string) bool {
	if len(a) < 2 || len(b) < 2 {
		return false
	}
	x, y := uintptr(unsafe.Pointer(unsafe.StringData(a))), uintptr(unsafe.Pointer(unsafe.StringData(b)))
	return x < y+uintptr(len(b)) && y < x+uintptr(len(a))
}

// wantApart fails if lines share memory with each other or with others.
func wantApart(t *testing.T, what string, lines, others []string) {
	t.Helper()
	for i, a := range lines {
		for _, b := range slices.Concat(lines[i+1:], others) {
			if sharing(a, b) {
				t.Fatalf("%s: %q and %q share memory", what, a, b)
			}
		}
	}
}

// 'Memory': Lines changes nothing, keeps nothing, and answers new memory.
func TestLinesMemory(t *testing.T) {
	const was = "line one\nline two\nline two\nthe last"
	text := append([]byte(was), "\nspare room"...)[:len(was)]
	first, second := diff.Lines(text), diff.Lines(text)
	if string(text[:len(was)+11]) != was+"\nspare room" {
		t.Error("Lines changes its argument")
	}
	wantApart(t, "Lines", first, append(second, unsafe.String(&text[0], cap(text))))
	clear(second[:cap(second)])
	clear(text)
	if strings.Join(first, "") != was {
		t.Error("Lines' answer shares memory")
	}
}

// both answers two lists with lines that stay, go and come, over and over; equal lines share their memory.
func both() ([]string, []string) {
	same := strings.Clone("the same line\n")
	a := crowded([]string{"one goes", "", "two goes\n", "", ""})
	b := crowded([]string{"", "one comes\n", "", "two comes"})
	for _, l := range [][]string{a, b} {
		for i, line := range l {
			if line == "" {
				l[i] = same
			}
		}
	}
	return a, b
}

// 'Memory': Way, Rest, Hunks and Text change nothing, keep nothing, and answer new memory.
func TestWayMemory(t *testing.T) {
	a, b := both()
	wasA, wasB := both()
	way, _ := diff.Way(a, b)
	l, _ := diff.Hunks(a, b)
	text, _ := diff.Text(a, b)
	again, _ := diff.Way(a, b)
	other, _ := diff.Hunks(a, b)
	diff.Rest(a, b)
	wantCrowded(t, "Way, Rest, Hunks or Text", a, wasA)
	wantCrowded(t, "Way, Rest, Hunks or Text", b, wasB)
	second, _ := diff.Text(a, b)
	wantApart(t, "Text", []string{text, second}, slices.Concat(a, b))
	one, _ := diff.Text(a[:1], nil)
	wantApart(t, "Text", []string{one}, a)
	clear(again[:cap(again)])
	clear(other[:cap(other)])
	clear(a)
	clear(b)
	wantWay(t, wasA, wasB, way...)
	wantHunks(t, wasA, wasB, l...)
	wantText(t, wasA, wasB, text)
}

// 'Memory': Apply changes nothing, keeps nothing, and answers new memory, of lines that stay and of those that come.
func TestApplyMemory(t *testing.T) {
	a, b := both()
	wasA, wasB := both()
	made, _ := diff.Hunks(a, b)
	l := append(make([]diff.Hunk, 0, len(made)+2), made...)
	l[:len(l)+1][len(l)] = hunk(7, 8)
	first, _ := diff.Apply(a, b, l)
	second, _ := diff.Apply(a, b, l)
	diff.Apply(a, b, l[1:])
	diff.Apply(a, b, nil)
	wantCrowded(t, "Apply", a, wasA)
	wantCrowded(t, "Apply", b, wasB)
	if !slices.Equal(l, made) || l[:len(l)+1][len(l)] != hunk(7, 8) {
		t.Error("Apply changes the hunks")
	}
	wantApart(t, "Apply", first, slices.Concat(second, a, b))
	clear(second[:cap(second)])
	if !slices.Equal(first, wasB) {
		t.Error("two answers of Apply share memory")
	}
	same, _ := diff.Apply(a, a, nil)
	wantApart(t, "Apply without hunks", same, a)
	clear(same[:cap(same)])
	wantCrowded(t, "who writes over Apply's answer", a, wasA)
}
