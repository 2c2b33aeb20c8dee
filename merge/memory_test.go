package merge_test

import (
	"bytes"
	"testing"
	"unsafe"

	"codicil/api"
	"codicil/merge"
)

// roomy answers the bytes of a text with spare room that isn't 0.
func roomy(text string) []byte {
	p := append([]byte(text), bytes.Repeat([]byte{0xa5}, 300)...)
	return p[:len(text):len(p)]
}

// wantRoomy fails if bytes made by roomy were changed, or their spare room.
func wantRoomy(t *testing.T, p []byte, was string) {
	t.Helper()
	if string(p) != was || len(bytes.Trim(p[len(p):cap(p)], "\xa5")) != 0 {
		t.Errorf("Three changes its argument %q", was)
	}
}

// apart answers whether no two lists share memory, spare room neither.
func apart(lists ...[]byte) bool {
	for i, a := range lists {
		for _, b := range lists[i+1:] {
			x, y := uintptr(unsafe.Pointer(unsafe.SliceData(a))), uintptr(unsafe.Pointer(unsafe.SliceData(b)))
			if cap(a) > 0 && cap(b) > 0 && x < y+uintptr(cap(b)) && y < x+uintptr(cap(a)) {
				return false
			}
		}
	}
	return true
}

// scratch writes over bytes and their spare room.
func scratch(p []byte) {
	p = p[:cap(p)]
	copy(p, bytes.Repeat([]byte{0x5a}, len(p)))
}

// 'Memory': Three changes nothing, keeps nothing, and answers new memory, also where what comes out is an argument.
func TestMemory(t *testing.T) {
	for _, x := range [][3]string{
		{"1\n2\n3\n", "1\nx\n2\n3\n", "1\n2\n3\ny"}, {"1", "2", "3"}, {"1\n", "1\n", "2\n"}, {"1\n", "2\n", "1\n"}, {"1\n", "2\n", "2\n"},
		{"1\n", "1\n", "1\n"}, {"", "", "1"}, {"1\n2", "3\n2", "4\n2"}, {"", "", ""}, {"1", "", ""},
	} {
		base, ours, theirs := roomy(x[0]), roomy(x[1]), roomy(x[2])
		first, n, e := merge.Three(base, ours, theirs, both())
		second, _, _ := merge.Three(base, ours, theirs, both())
		merge.Three(base, ours, theirs, [2]string{"\n", ""})
		wantRoomy(t, base, x[0])
		wantRoomy(t, ours, x[1])
		wantRoomy(t, theirs, x[2])
		if !apart(first, second, base, ours, theirs) {
			t.Errorf("Three(%q) shares memory", x)
		}
		for _, p := range [][]byte{second, base, ours, theirs} {
			scratch(p)
		}
		wanted, clashes := plainThree(x[0], x[1], x[2], both())
		if string(first) != wanted || n != clashes || e != api.OK {
			t.Errorf("Three(%q): %q, %d clashes, error %d", x, first, n, e)
		}
	}
}

// 'Memory': one list may be handed in several times.
func TestOneList(t *testing.T) {
	text := roomy("1\n2\n3")
	first, n, e := merge.Three(text, text, text, both())
	wantRoomy(t, text, "1\n2\n3")
	if string(first) != "1\n2\n3" || n != 0 || e != api.OK || !apart(first, text) {
		t.Errorf("Three of one list: %q, %d clashes, error %d", first, n, e)
	}
	// base is a piece of ours, ours one of theirs.
	p := roomy("1\n2\n3\n")
	made, n, e := merge.Three(p[:2], p[:4], p, both())
	wantRoomy(t, p, "1\n2\n3\n")
	if string(made) != "1\n"+clash(both(), "2\n", "", "2\n3\n") || n != 1 || e != api.OK {
		t.Errorf("Three of pieces of one list: %q, %d clashes, error %d", made, n, e)
	}
}

// Lists: nil and empty ones are the same.
func TestNil(t *testing.T) {
	none := [][]byte{nil, {}}
	for _, a := range none {
		for _, b := range none {
			for _, c := range none {
				if text, n, e := merge.Three(a, b, c, both()); len(text) != 0 || n != 0 || e != api.OK {
					t.Errorf("Three of nothing: %q, %d clashes, error %d", text, n, e)
				}
			}
			if text, n, e := merge.Three([]byte("1\n"), a, b, both()); len(text) != 0 || n != 0 || e != api.OK {
				t.Errorf("Three of two empty sides: %q, %d clashes, error %d", text, n, e)
			}
		}
	}
}

// P2: what is asked again has the same answer, whatever was asked between.
func TestAnsweredAgain(t *testing.T) {
	for range 20 {
		wantThree(t, "1\n2\n3\n", "1\nx\n3\n", "1\ny\n3\n", "1\n"+clash(both(), "x\n", "2\n", "y\n")+"3\n", 1)
		wantError(t, "a wrong label", "1", "2", "3", [2]string{"\n", ""}, api.ErrName)
		wantOne(t, "", "", "", [2]string{}, "", 0)
	}
}
