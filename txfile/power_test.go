package txfile_test

import (
	"strings"
	"testing"

	"codicil/api"
	"codicil/fs"
	"codicil/txfile"
)

// calls answers how many counted calls a commit has, if nothing is refused.
func calls(t *testing.T, d *fs.Disk, list []txfile.Change) int {
	t.Helper()
	whole := crash(t, d)
	want(t, "Commit", open(t, whole).Commit(list), api.OK)
	return whole.Count()
}

// cut answers a disk whose power went at that call of a commit, and what the commit answered; the store must answer what
// that says.
func cut(t *testing.T, d *fs.Disk, off int, before state, list []txfile.Change) (*fs.Disk, api.Errno) {
	t.Helper()
	c := crash(t, d)
	s := open(t, c)
	c.Plan(nil, off)
	errno := s.Commit(list)
	switch errno {
	case api.OK:
		wantFiles(t, "the power went behind the moment", s, before.with(list))
	case api.ErrOff:
		wantFiles(t, "the power went", s, before)
	default:
		t.Fatalf("off at %d: error %d", off, errno)
	}
	if !c.Off() {
		t.Fatalf("off at %d: the power is on", off)
	}
	want(t, "another commit", s.Commit(list), api.ErrOff)
	return c, errno
}

// wantOneOf answers whether a disk has the state behind a commit, and fails the test if it has neither that nor the one
// ahead of it.
func wantOneOf(t *testing.T, what string, left *fs.Disk, errno api.Errno, before, after state) bool {
	t.Helper()
	got := told(t, open(t, left))
	if got != after.text() && (errno == api.OK || got != before.text()) {
		t.Fatalf("%s (the commit answered %d): %s, wanted %s or %s", what, errno, got, before.text(), after.text())
	}
	return got == after.text()
}

// wantOwn fails the test, if a disk has files that are neither the store's, as of one of two states, nor below tx/.
func wantOwn(t *testing.T, d *fs.Disk, before, after state) {
	t.Helper()
	list, _ := d.Files()
	for _, f := range list {
		path, data := strings.CutPrefix(f.Path, "data/")
		_, old := before[path]
		_, fresh := after[path]
		if !(data && (old || fresh) || strings.HasPrefix(f.Path, "tx/")) {
			t.Errorf("the disk has a file %s", f.Path)
		}
	}
}

// P12.2, P5: the power goes at each counted call of a commit: behind each crash all changes are there, or none; all, if
// the commit answered OK.
func TestPowerGoesAtEachCall(t *testing.T) {
	before, list := some()
	after := before.with(list)
	d, _ := filled(t, plenty, before)
	olds, news := 0, 0
	for off := range calls(t, d, list) {
		c, errno := cut(t, d, off+1, before, list)
		for _, choices := range ways() {
			left := crash(t, c, choices...)
			wantOwn(t, left, before, after)
			if wantOneOf(t, "behind the crash", left, errno, before, after) {
				wantDisk(t, "behind Open", left, after)
				news++
			} else {
				wantDisk(t, "behind Open", left, before)
				olds++
			}
		}
	}
	if olds < 100 || news < 100 {
		t.Errorf("%d crashes before the commit, %d behind it", olds, news)
	}
}

// P12.2: the calls of a commit in their order: the power goes at each call, and with each choice there is one moment: once
// a commit answered OK, each one whose power goes later does.
func TestOneMoment(t *testing.T) {
	before, list := some()
	d, _ := filled(t, plenty, before)
	made := false
	all := calls(t, d, list)
	for off := range all {
		_, errno := cut(t, d, off+1, before, list)
		if made && errno != api.OK {
			t.Errorf("off at %d: error %d", off+1, errno)
		}
		made = made || errno == api.OK
	}
	if !made {
		t.Errorf("none of %d calls is behind the moment", all)
	}
}

// P12.3: the power goes again, at each counted call of the Open behind a crash, and of the Open behind that.
func TestPowerGoesDuringOpen(t *testing.T) {
	before, list := some()
	after := before.with(list)
	d, _ := filled(t, plenty, before)
	ended := 0
	for off := range calls(t, d, list) {
		c, errno := cut(t, d, off+1, before, list)
		for _, left := range lefts(t, c, fewWays()) {
			wanted := before
			if wantOneOf(t, "behind the crash", crash(t, left), errno, before, after) {
				wanted = after
			}
			ended += openCut(t, left, wanted, 2)
		}
	}
	if ended < 1000 {
		t.Errorf("%d Opens were ended by the power", ended)
	}
}

// openCut opens copies of a disk whose power goes at each call of Open in turn, as often as deep says, and asks whether the
// wanted state is opened behind each crash. It answers how many Opens the power ended.
func openCut(t *testing.T, d *fs.Disk, wanted state, deep int) int {
	t.Helper()
	ended := 0
	for off := 1; ; off++ {
		c := crash(t, d)
		c.Plan(nil, off)
		s, errno := txfile.Open(c)
		if errno == api.OK {
			wantFiles(t, "Open", s, wanted)
			return ended
		}
		ended++
		want(t, "Open, the power went", errno, api.ErrOff)
		if s != nil {
			t.Fatalf("a store beside an error")
		}
		for i, left := range lefts(t, c, fewWays()) {
			wantFiles(t, "Open again", open(t, crash(t, left)), wanted)
			// To go deeper with some of the crashes is enough.
			if deep > 1 && (i+8*off)%49 == 0 {
				ended += openCut(t, left, wanted, deep-1)
			}
		}
	}
}

// P12.2: what answered OK lasts: the power goes at each call of a later commit, of other paths or of the same.
func TestEarlierCommitsLast(t *testing.T) {
	d, s := filled(t, plenty, state{"a": "1", "d/b": "2"})
	want(t, "Commit", s.Commit(changes(has("a", "3"), has("e/c", "4"))), api.OK)
	before := state{"a": "3", "d/b": "2", "e/c": "4"}
	for _, list := range [][]txfile.Change{
		changes(has("n", "5")), changes(gone("a")), changes(has("a", "6"), has("e/c", "7")), changes(gone("a"), gone("d/b"), gone("e/c")),
	} {
		for off := range calls(t, d, list) {
			c, errno := cut(t, d, off+1, before, list)
			for _, choices := range ways() {
				wantOneOf(t, "behind the crash", crash(t, c, choices...), errno, before, before.with(list))
			}
		}
	}
}

// P12.2: behind a crash at each call the store that is opened commits as ever, and that lasts.
func TestCommitBehindCrash(t *testing.T) {
	before, list := some()
	after := before.with(list)
	d, _ := filled(t, plenty, before)
	next := changes(has("a", "next"), has("d/a", "next"), has("n/n", "next"))
	for off := range calls(t, d, list) {
		c, errno := cut(t, d, off+1, before, list)
		for _, choices := range fewWays() {
			left := crash(t, c, choices...)
			wanted := before.with(next)
			if wantOneOf(t, "behind the crash", crash(t, left), errno, before, after) {
				wanted = after.with(next)
			}
			s := open(t, left)
			want(t, "Commit behind the crash", s.Commit(next), api.OK)
			wantFiles(t, "Commit behind the crash", s, wanted)
			wantDisk(t, "Commit behind the crash", left, wanted)
			for _, more := range fewWays() {
				wantFiles(t, "behind the next crash", open(t, crash(t, left, more...)), wanted)
			}
		}
	}
}
