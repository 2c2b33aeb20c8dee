package txfile_test

import (
	"bytes"
	"maps"
	"math/rand"
	"slices"
	"strconv"
	"strings"
	"testing"

	"codicil/api"
	"codicil/fs"
	"codicil/txfile"
)

// plenty is a quota that no small test reaches.
const plenty = 1 << 20

// state is what a store ought to have: bytes by paths.
type state map[string]string

// text answers a state as one text.
func (x state) text() string {
	var parts []string
	for _, path := range slices.Sorted(maps.Keys(x)) {
		parts = append(parts, path+"="+strconv.Quote(x[path]))
	}
	return strings.Join(parts, " ")
}

// with answers the state behind these changes.
func (x state) with(list []txfile.Change) state {
	y := maps.Clone(x)
	if y == nil {
		y = state{}
	}
	for _, c := range list {
		if c.Gone {
			delete(y, c.Path)
		} else {
			y[c.Path] = string(c.Data)
		}
	}
	return y
}

// list answers the changes by which an empty store comes to a state.
func (x state) list() []txfile.Change {
	var list []txfile.Change
	for _, path := range slices.Sorted(maps.Keys(x)) {
		list = append(list, has(path, x[path]))
	}
	return list
}

// has answers a change by which a path has a file, gone one by which it has none.
func has(path, data string) txfile.Change { return txfile.Change{Path: path, Data: []byte(data)} }
func gone(path string) txfile.Change      { return txfile.Change{Path: path, Gone: true} }

// changes answers a list of changes.
func changes(list ...txfile.Change) []txfile.Change { return list }

// want fails the test, if a call answered another error.
func want(t *testing.T, what string, got, wanted api.Errno) {
	t.Helper()
	if got != wanted {
		t.Errorf("%s: error %d, wanted %d", what, got, wanted)
	}
}

// line answers files as one text.
func line(list []api.File) string {
	var parts []string
	for _, f := range list {
		parts = append(parts, f.Path+"="+strconv.Quote(string(f.Data)))
	}
	return strings.Join(parts, " ")
}

// told answers all files of a store as one text, and fails the test if Read answers others.
func told(t *testing.T, s *txfile.Store) string {
	t.Helper()
	list, errno := s.Files()
	want(t, "Files", errno, api.OK)
	for _, f := range list {
		p, errno := s.Read(f.Path)
		if !bytes.Equal(p, f.Data) || errno != api.OK {
			t.Errorf("Read(%q): %q, error %d, wanted %q", f.Path, p, errno, f.Data)
		}
	}
	return line(list)
}

// wantFiles fails the test, if a store has other files.
func wantFiles(t *testing.T, what string, s *txfile.Store, wanted state) {
	t.Helper()
	if got := told(t, s); got != wanted.text() {
		t.Fatalf("%s: files %s, wanted %s", what, got, wanted.text())
	}
}

// wantDisk fails the test, if the disk has other files than those of the store: one below data/ for each.
func wantDisk(t *testing.T, what string, d *fs.Disk, wanted state) {
	t.Helper()
	under := state{}
	for path, data := range wanted {
		under["data/"+path] = data
	}
	list, errno := d.Files()
	want(t, "the disk's Files", errno, api.OK)
	if got := line(list); got != under.text() {
		t.Fatalf("%s: the disk has %s, wanted %s", what, got, under.text())
	}
}

// newDisk answers a new disk.
func newDisk(t *testing.T, quota int) *fs.Disk {
	t.Helper()
	d, errno := fs.New(quota)
	if errno != api.OK {
		t.Fatalf("New(%d): error %d", quota, errno)
	}
	return d
}

// open answers the store of a disk; Open must not have an error.
func open(t *testing.T, d *fs.Disk) *txfile.Store {
	t.Helper()
	s, errno := txfile.Open(d)
	if s == nil || errno != api.OK {
		t.Fatalf("Open: %v, error %d", s, errno)
	}
	return s
}

// filled answers a disk with this quota and its store, which has this state.
func filled(t *testing.T, quota int, x state) (*fs.Disk, *txfile.Store) {
	t.Helper()
	d := newDisk(t, quota)
	s := open(t, d)
	if len(x) > 0 {
		want(t, "the first commit", s.Commit(x.list()), api.OK)
	}
	d.Plan(nil, 0)
	return d, s
}

// crash answers what is left of a disk. Of a disk on which nothing is pending that is a copy.
func crash(t *testing.T, d *fs.Disk, choices ...uint8) *fs.Disk {
	t.Helper()
	left, errno := d.Crash(choices)
	if errno != api.OK {
		t.Fatalf("Crash: error %d", errno)
	}
	return left
}

// lefts answers all unlike disks that crashes leave.
func lefts(t *testing.T, d *fs.Disk, ways [][]uint8) []*fs.Disk {
	t.Helper()
	var all []*fs.Disk
	seen := map[string]bool{}
	for _, choices := range ways {
		left := crash(t, d, choices...)
		list, _ := left.Files()
		if !seen[line(list)] {
			all = append(all, left)
		}
		seen[line(list)] = true
	}
	return all
}

// ways answers choices by which crashes differ: each number of the first changes of up to three folders, and of the bytes
// of a file the first ones, as they are or 0.
func ways() [][]uint8 {
	list := [][]uint8{nil, {255}, {254}, {253, 252}, {128, 129, 255}}
	for a := range uint8(4) {
		for b := range uint8(4) {
			list = append(list, []uint8{a, b}, []uint8{a, b, 2, 0}, []uint8{a, b, 3, 1, 1, 0})
		}
	}
	r := rand.New(rand.NewSource(12))
	for range 20 {
		choices := make([]uint8, 1+r.Intn(8))
		r.Read(choices)
		list = append(list, choices)
	}
	return list
}

// fewWays answers some of ways.
func fewWays() [][]uint8 {
	return [][]uint8{nil, {1}, {255}, {0, 1}, {1, 0}, {2, 3, 1, 0}, {3, 1, 2}, {7, 5, 200, 3, 1}}
}

// some is a state, and other changes of it in several folders: files that come, go, are others, and are as they were.
func some() (state, []txfile.Change) {
	return state{"a": "one", "b": "", "d/a": "two", "d/b": "three", "d/e/f": "four", "x/y": "five"},
		changes(has("a", "ONE and more"), gone("b"), has("d/a", ""), gone("d/e/f"), has("d/c", "new"), has("n/n", "newer"),
			has("d/b", "three"), gone("nothing"))
}

// scratch overwrites bytes, spare room too.
func scratch(p []byte) {
	for i := range p[:cap(p)] {
		p[:cap(p)][i] = 0x5a
	}
}
