package txfile_test

import (
	"bytes"
	"math/rand"
	"slices"
	"strings"
	"testing"

	"codicil/api"
	"codicil/fs"
	"codicil/txfile"
)

// journal answers the bytes of the file that a commit's changes are written to, and fails the test if there is none.
func journal(t *testing.T, list []txfile.Change) []byte {
	t.Helper()
	d, _ := filled(t, plenty, nil)
	for off := range calls(t, d, list) {
		c, errno := cut(t, d, off+1, nil, list)
		if errno == api.OK {
			p, _ := crash(t, c).Read("tx/journal")
			return p
		}
	}
	t.Fatalf("no journal")
	return nil
}

// lay makes a file on a disk.
func lay(t *testing.T, d *fs.Disk, path string, data []byte) {
	t.Helper()
	want(t, "Create "+path, d.Create(path), api.OK)
	want(t, "Append "+path, d.Append(path, data), api.OK)
}

// wantWorks fails the test, if a disk, whatever its files are, can't be opened, or a store of it doesn't commit.
func wantWorks(t *testing.T, d *fs.Disk) {
	t.Helper()
	s := open(t, d)
	told(t, s)
	want(t, "Commit", s.Commit(changes(has("a", "works"), gone("b"))), api.OK)
	for _, choices := range fewWays() {
		again := open(t, crash(t, d, choices...))
		p, errno := again.Read("a")
		_, none := again.Read("b")
		if string(p) != "works" || errno != api.OK || none != api.ErrNone {
			t.Fatalf("a is %q, error %d; b has the error %d", p, errno, none)
		}
	}
}

// P1: whatever bytes stand in a journal that others made, Open ends, and the store that it answers commits.
func TestForeignJournals(t *testing.T) {
	whole := journal(t, changes(has("a", "one"), gone("b"), has("d/c", strings.Repeat("x", 200)), gone("d/e")))
	var list [][]byte
	for i := range whole {
		list = append(list, whole[:i], slices.Insert(slices.Clone(whole), i, whole[i]))
		for _, b := range []byte{0, 1, 2, 127, 128, 255, whole[i] ^ 1} {
			p := slices.Clone(whole)
			p[i] = b
			list = append(list, p)
		}
	}
	r := rand.New(rand.NewSource(1))
	for range 500 {
		p := make([]byte, r.Intn(40))
		for i := range p {
			p[i] = byte(r.Intn(4))
		}
		list = append(list, p)
	}
	list = append(list, bytes.Repeat([]byte{255}, 50), append([]byte{1}, bytes.Repeat([]byte{255}, 9)...), []byte{1, 1, 'a', 255, 255, 255, 255, 255, 255, 255, 255, 127})
	for _, p := range list {
		d, _ := filled(t, plenty, state{"a": "0", "b": "1"})
		lay(t, d, "tx/journal", p)
		wantWorks(t, d)
	}
}

// P1: whatever files others made below tx/ and data/, Open ends, and the store that it answers commits.
func TestForeignFiles(t *testing.T) {
	for _, path := range []string{"tx/new", "tx/room", "tx/a", "tx/a/b", "tx/journal/a", "data/a", "data/b", "data/" + longPath(195), "data/tx/journal"} {
		for _, data := range []string{"", "x", strings.Repeat("x", 5000)} {
			d := newDisk(t, plenty)
			lay(t, d, path, []byte(data))
			wantWorks(t, d)
			d, s := filled(t, plenty, nil)
			lay(t, d, path, []byte(data))
			want(t, "Commit beside others' files", s.Commit(changes(has("a", "x"), has("b", "y"))), api.OK)
			wantWorks(t, d)
		}
	}
}

// P12.2: a journal is made as a whole, or, where its bytes are none that a commit writes, not at all.
func TestBrokenJournalChangesNothing(t *testing.T) {
	list := changes(has("a", "one"), gone("b"), has("c", "two"))
	whole := journal(t, list)
	before := state{"a": "0", "b": "1"}
	d, _ := filled(t, plenty, before)
	lay(t, d, "tx/journal", whole)
	wantFiles(t, "the whole journal", open(t, d), before.with(list))
	for _, p := range [][]byte{whole[:len(whole)-1], append(slices.Clone(whole), 2), append(slices.Clone(whole), 0), append(slices.Clone(whole), 0, 0),
		append(slices.Clone(whole), 0, 2, '/', 'a'), append(slices.Clone(whole), 1, 1, 'x'), append(slices.Clone(whole), 2, 1, 'x', 1, 'y'),
		append(append(slices.Clone(whole), 0, 181, 1), longPath(181)...), append(slices.Clone(whole), 1, 1, 'x', 1)} {
		d, _ := filled(t, plenty, before)
		lay(t, d, "tx/journal", p)
		wantFiles(t, "a broken journal", open(t, d), before)
		wantDisk(t, "a broken journal", d, before)
	}
}
