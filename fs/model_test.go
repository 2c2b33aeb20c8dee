package fs_test

import (
	"math/rand"
	"strings"
	"testing"

	"codicil/api"
	"codicil/fs"
)

// pair is a disk and what it ought to be.
type pair struct {
	real  *fs.Disk
	plain *plainDisk
}

// step makes a call of both disks and answers their errors.
func (x pair) step(r *rand.Rand) (string, api.Errno, api.Errno) {
	all := []string{"a", "b", "d/a", "d/b", "d/c", "d/e/a", "d/e/b", "f/a"}
	if r.Intn(12) == 0 {
		all = []string{"", "a//b", "/", "d/", ".git", "d", strings.Repeat("x", 201)}
	}
	from, to := all[r.Intn(len(all))], all[r.Intn(len(all))]
	p := []byte("0123456789abcdefghij")[:r.Intn(21)]
	switch r.Intn(13) {
	case 0, 1, 2:
		return "Create", x.real.Create(from), x.plain.Create(from)
	case 3, 4, 5:
		return "Append", x.real.Append(from, p), x.plain.Append(from, p)
	case 6:
		return "Sync", x.real.Sync(from), x.plain.Sync(from)
	case 7, 8, 9:
		return "Rename", x.real.Rename(from, to), x.plain.Rename(from, to)
	case 10, 11:
		return "Remove", x.real.Remove(from), x.plain.Remove(from)
	}
	folder := folderOf(from)
	return "SyncDir", x.real.SyncDir(folder), x.plain.SyncDir(folder)
}

// compare fails the test, if the two disks answer unlike things.
func (x pair) compare(t *testing.T) {
	t.Helper()
	if x.real.Off() != x.plain.isOff || x.real.Count() != x.plain.count {
		t.Fatalf("off %v, count %d, wanted %v, %d", x.real.Off(), x.real.Count(), x.plain.isOff, x.plain.count)
	}
	if x.plain.isOff {
		_, errno := x.real.Files()
		want(t, "Files", errno, api.ErrOff)
		return
	}
	if got, wanted := told(t, x.real), line(x.plain.list(x.plain.now())); got != wanted {
		t.Fatalf("files %s, wanted %s", got, wanted)
	}
}

// crash answers both disks behind one crash.
func (x pair) crash(t *testing.T, r *rand.Rand) (pair, int) {
	t.Helper()
	choices := make([]uint8, r.Intn(24))
	for i := range choices {
		choices[i] = uint8(r.Intn(8))
		if r.Intn(4) == 0 {
			choices[i] = uint8(r.Intn(256))
		}
	}
	left, used := x.plain.Crash(choices)
	both := pair{crash(t, x.real, choices...), left}
	both.compare(t)
	return both, used
}

// P11.1, P11.2, P11.3: runs of calls, plans and crashes answer what a disk by the chapter's words answers.
func TestRunsOfCalls(t *testing.T) {
	r := rand.New(rand.NewSource(11))
	met := map[api.Errno]int{}
	most := 0
	for range 400 {
		quota := r.Intn(120)
		x := pair{newDisk(t, quota), &plainDisk{quota: quota}}
		for range 120 {
			what, got, wanted := x.step(r)
			want(t, what, got, wanted)
			met[got]++
			x.compare(t)
			if r.Intn(3) == 0 {
				left, used := x.crash(t, r)
				most = max(most, used)
				if x.plain.isOff || r.Intn(30) == 0 {
					x = left
				}
			}
			if r.Intn(20) == 0 {
				refuse, off := []int{r.Intn(9), r.Intn(9) - 2, r.Intn(9)}, max(0, r.Intn(60)-20)
				x.real.Plan(refuse, off)
				x.plain.Plan(refuse, off)
				x.compare(t)
			}
		}
	}
	for _, errno := range []api.Errno{api.OK, api.ErrArg, api.ErrNone, api.ErrExists, api.ErrDisk, api.ErrFull, api.ErrOff} {
		if met[errno] < 100 {
			t.Errorf("error %d was met %d times", errno, met[errno])
		}
	}
	if most < 12 {
		t.Errorf("at most %d choices were used", most)
	}
}

// P2: the same calls answer the same again, whatever the order in which maps are gone through.
func TestSameAgain(t *testing.T) {
	run := func() string {
		r := rand.New(rand.NewSource(2))
		var all strings.Builder
		d := newDisk(t, 500)
		x := pair{d, &plainDisk{quota: 500}}
		for range 300 {
			x.step(r)
			left, _ := x.crash(t, r)
			all.WriteString(told(t, left.real) + "\n")
		}
		return all.String()
	}
	first := run()
	for range 5 {
		if run() != first {
			t.Fatalf("another answer")
		}
	}
}
