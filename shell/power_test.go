package shell_test

import (
	"fmt"
	"math/rand"
	"testing"

	"codicil/api"
	"codicil/fs"
	"codicil/maint"
	"codicil/shell"
)

// tour answers a script that goes through all commands, with refusals of their own between.
func tour() []step {
	return script("write a|1\n2\n3\n", "write b/c|x", "add a", "add b/c", "commit one", "branch b HEAD", "commit again", "write a|0\n1\n2\n3\n", "add a", "commit two", "switch b", "write a|1\n2\n3\n4\n", "add a",
		"write d|new", "add d", "commit three", "log HEAD", "merge main", "write a|z\n", "stash", "write d|other", "stash", "pop", "reset hard HEAD", "pop", "reset mixed main", "reset hard b", "switch main", "write b/c|y", "add b/c", "commit four",
		"rebase b", "write a|clash\n", "add a", "commit five", "branch e HEAD", "reset hard main", "pick b", "switch e", "write a|mine\n", "add a", "commit six", "reset soft b", "reset hard main", "erase d", "add d", "commit seven",
		"merge e", "pick e", "skip", "abort", "gc 20", "write a|last\n", "add a", "commit eight", "branch f main", "gc 0", "gc 0", "status", "fsck")
}

// states are what a disk's files may be behind a crash.
type states [][]api.File

func (x states) have(files []api.File) bool {
	for _, s := range x {
		if sameFiles(s, files) {
			return true
		}
	}
	return false
}

// chosen answers choices of a crash: some by hand, and some by chance.
func chosen(r *rand.Rand) [][]uint8 {
	list := [][]uint8{nil, {255}, {1, 0, 2}}
	random := make([]uint8, 1+r.Intn(7))
	for i := range random {
		random[i] = uint8(r.Intn(256))
	}
	return append(list, random)
}

// wantCrashed fails unless a disk's shell has one of the states behind each crash, also where the power goes while it is
// opened, with no more problems than before.
func wantCrashed(t *testing.T, what string, d *fs.Disk, may states, problems int, r *rand.Rand) {
	t.Helper()
	for _, choices := range chosen(r) {
		c, e := d.Crash(choices)
		if e != api.OK {
			t.Fatalf("%s: Crash: error %d", what, e)
		}
		for off := 1; ; off += 1 + r.Intn(3) {
			again, _ := c.Crash(nil)
			again.Plan(nil, off)
			s, e := shell.Open(again, me())
			if (e == api.OK) != (s != nil) || e != api.OK && e != api.ErrOff {
				t.Fatalf("%s: Open with the power going: %v, error %d", what, s, e)
			}
			if e == api.OK && !may.have(filesOf(t, s)) {
				t.Fatalf("%s: Open with the power going has other files", what)
			}
			if !again.Off() {
				break
			}
			again, _ = again.Crash([]uint8{uint8(r.Intn(256)), uint8(r.Intn(256))})
			if s, e = shell.Open(again, me()); e != api.OK || !may.have(filesOf(t, s)) {
				t.Fatalf("%s, and then while it is opened, at %d: error %d, or other files", what, off, e)
			}
		}
		s := opened(t, c)
		files := filesOf(t, s)
		if !may.have(files) {
			t.Fatalf("%s: behind a crash by %v the files are others", what, choices)
		}
		if got := len(maint.Fsck(files)); got > problems {
			t.Fatalf("%s: there are %d problems, there were %d", what, got, problems)
		}
	}
}

// P27.3: the power goes at each counted call of each command: behind each crash the command has been made as a whole, or not
// at all; if it answered OK, it has been made. DOC.md's example 9.
func TestPower(t *testing.T) {
	r := rand.New(rand.NewSource(27))
	d := newDisk(t)
	s := opened(t, d)
	ends := map[string]int{}
	for i, x := range tour() {
		before := filesOf(t, s)
		lasting, _ := d.Crash(nil)
		if !sameFiles(filesOf(t, opened(t, lasting)), before) {
			t.Fatalf("%d, %q: what was made doesn't last", i, x.words)
		}
		wantDone(t, "the tour", s, x)
		after := filesOf(t, s)
		problems := len(maint.Fsck(before))
		for off := 1; ; off++ {
			copied, _ := lasting.Crash(nil)
			u := opened(t, copied)
			copied.Plan(nil, off)
			_, e := x.do(u)
			went := copied.Off()
			what := fmt.Sprintf("%d, %q, the power going at %d", i, x.words, off)
			if went && e == api.ErrOff && !sameFiles(filesOf(t, u), before) || e == api.OK && !sameFiles(filesOf(t, u), after) {
				t.Fatalf("%s: error %d, and other files", what, e)
			}
			may := states{before, after}
			if e != api.ErrOff {
				may = states{after}
			}
			ends[fmt.Sprintf("error %d, the power off: %v", e, went)]++
			if off%3 == 1 || !went {
				wantCrashed(t, what, copied, may, problems, r)
			}
			if went && e == api.ErrOff {
				// What reads is answered from what is known, what changes isn't made.
				wantText(t, what, u, told("fsck", 99), "clean")
				if _, e := u.Do([]string{"write", "zz"}, nil, 99); e != api.ErrOff {
					t.Fatalf("%s: error %d of a command with the power off", what, e)
				}
			}
			if !went {
				break
			}
		}
	}
	if ends["error 13, the power off: true"] < 100 || ends["error 0, the power off: true"] == 0 {
		t.Errorf("too little was tried: %v", ends)
	}
}

// P27.3: refusals by chance, and the power going: a command that answers an error other than ErrOff has changed nothing, one
// that answers OK has been made, for good.
func TestRefusals(t *testing.T) {
	r := rand.New(rand.NewSource(28))
	ends := map[api.Errno]int{}
	for round := range 60 {
		d := newDisk(t)
		s := opened(t, d)
		refuse := []int{}
		for range r.Intn(60) {
			refuse = append(refuse, 1+r.Intn(1200))
		}
		off := 0
		if r.Intn(4) > 0 {
			off = 1 + r.Intn(1200)
		}
		d.Plan(refuse, off)
		for i, x := range tour() {
			before := filesOf(t, s)
			wanted, wantedText, errno := plainDo(before, x)
			text, e := x.do(s)
			ends[e]++
			after := filesOf(t, s)
			what := fmt.Sprintf("round %d, %d, %q", round, i, x.words)
			switch {
			case e == api.OK && (errno != api.OK || text != wantedText || !sameFiles(after, wanted)):
				t.Fatalf("%s: %q, error %d, wanted %q, error %d; or other files", what, text, e, wantedText, errno)
			case e != api.OK && (text != "" || !sameFiles(after, before)):
				t.Fatalf("%s: %q, error %d, and the files have changed", what, text, e)
			case e != errno && e != api.ErrOff && e != api.ErrDisk && e != api.ErrFull:
				t.Fatalf("%s: error %d, wanted %d", what, e, errno)
			}
			may := states{after}
			if e == api.ErrOff {
				may = states{before, wanted}
			}
			if e != errno && r.Intn(3) == 0 || r.Intn(60) == 0 || e == api.ErrOff {
				wantCrashed(t, what, d, may, 0, r)
			}
			if e == api.ErrOff {
				break
			}
		}
	}
	if ends[api.ErrDisk] < 20 || ends[api.ErrOff] < 10 {
		t.Errorf("too little was tried: %v", ends)
	}
}

// P27.3: a disk that becomes full: ErrFull, and nothing has changed; with room again all goes on.
func TestFull(t *testing.T) {
	ends := map[api.Errno]int{}
	for room := 1000; room < 40000; room += 1500 {
		d, _ := fs.New(room)
		s, e := shell.Open(d, me())
		if e != api.OK {
			if e != api.ErrFull || s != nil {
				t.Fatalf("Open with %d bytes: %v, error %d", room, s, e)
			}
			continue
		}
		for _, x := range tour() {
			before := filesOf(t, s)
			wanted, _, errno := plainDo(before, x)
			_, e := x.do(s)
			ends[e]++
			after := filesOf(t, s)
			if e == api.OK && !sameFiles(after, wanted) || e != api.OK && !sameFiles(after, before) || e != errno && e != api.ErrFull {
				t.Fatalf("%d bytes, %q: error %d, wanted %d, or other files", room, x.words, e, errno)
			}
		}
		c, _ := d.Crash(nil)
		if !sameFiles(filesOf(t, opened(t, c)), filesOf(t, s)) {
			t.Fatalf("%d bytes: the files don't last", room)
		}
	}
	if ends[api.ErrFull] < 50 || ends[api.OK] < 50 {
		t.Errorf("too little was tried: %v", ends)
	}
}

// P27.3: the power goes at each counted call of Open, of a new disk: behind each crash the next one makes it.
func TestPowerWhileOpened(t *testing.T) {
	r := rand.New(rand.NewSource(29))
	begun := filesOf(t, opened(t, newDisk(t)))
	for off := 1; ; off++ {
		d := newDisk(t)
		d.Plan(nil, off)
		s, e := shell.Open(d, me())
		if (s == nil) != (e != api.OK) || e != api.OK && e != api.ErrOff {
			t.Fatalf("at %d: %v, error %d", off, s, e)
		}
		wantCrashed(t, fmt.Sprint("opened with the power going at ", off), d, states{begun}, 0, r)
		if !d.Off() {
			break
		}
	}
}

// P27.3: in a repository in which something is wrong a command that isn't made leaves it as it was, also its problems.
func TestPowerWithProblems(t *testing.T) {
	r := rand.New(rand.NewSource(30))
	s, _ := grown(t)
	files := filesOf(t, s)
	for i, f := range files {
		if len(f.Path) > 60 {
			files = append(files[:i], files[i+1:]...)
			break
		}
	}
	problems := len(maint.Fsck(files))
	if problems == 0 {
		t.Fatal("there is no problem")
	}
	for off := 1; off < 14; off++ {
		d := holding(t, files)
		u := opened(t, d)
		wantText(t, "problems", u, told("fsck", 99), "problems")
		d.Plan(nil, off)
		x := told("write zz|new", 100)
		wanted, _, _ := plainDo(files, x)
		_, e := x.do(u)
		may := states{files, wanted}
		if e == api.OK {
			may = states{wanted}
		}
		wantCrashed(t, fmt.Sprint("problems, at ", off), d, may, problems, r)
	}
}
