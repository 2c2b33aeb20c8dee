package txfile_test

import (
	"math/rand"
	"strconv"
	"strings"
	"testing"

	"codicil/api"
	"codicil/fs"
	"codicil/txfile"
)

// randomChanges answers some changes of few paths.
func randomChanges(r *rand.Rand) []txfile.Change {
	all := []string{"a", "b", "d/a", "d/b", "d/e/a", "f/g/h"}
	var list []txfile.Change
	for _, i := range r.Perm(len(all))[:r.Intn(len(all))] {
		if r.Intn(3) == 0 {
			list = append(list, gone(all[i]))
		} else {
			list = append(list, has(all[i], strings.Repeat(strconv.Itoa(r.Intn(10)), r.Intn(40))))
		}
	}
	return list
}

// randomChoices answers choices of a crash.
func randomChoices(r *rand.Rand) []uint8 {
	choices := make([]uint8, r.Intn(10))
	for i := range choices {
		choices[i] = uint8(r.Intn(8))
		if r.Intn(3) == 0 {
			choices[i] = uint8(r.Intn(256))
		}
	}
	return choices
}

// randomPlan answers refusals, sparse or thick, and the call at which the power goes.
func randomPlan(r *rand.Rand) ([]int, int) {
	var refuse []int
	odds := 1 + r.Intn(30)
	for i := range 300 {
		if r.Intn(odds+3) == 0 {
			refuse = append(refuse, i+1)
		}
	}
	return refuse, 1 + r.Intn(250)
}

// P12.3: of each run of commits with refusals and one loss of power, the state that is opened behind the crash is that of
// the commits that answered OK, or that with the one under way, too; and the same, if the power goes during Open, any number
// of times. Quotas are scarce or not, and the run goes on with what was opened.
func TestRunsOfCommits(t *testing.T) {
	r := rand.New(rand.NewSource(123))
	met := map[api.Errno]int{}
	with, without := 0, 0
	for range 1000 {
		d := newDisk(t, 100+r.Intn(900))
		now := state{}
		for range 5 {
			s := open(t, d)
			wantFiles(t, "Open", s, now)
			refuse, off := randomPlan(r)
			d.Plan(refuse, off)
			under := now
			for !d.Off() {
				list := randomChanges(r)
				errno := s.Commit(list)
				met[errno]++
				switch errno {
				case api.OK:
					now = now.with(list)
					under = now
				case api.ErrOff:
					under = now.with(list)
				case api.ErrDisk, api.ErrFull:
					wantFiles(t, "behind a crash", open(t, crash(t, d, randomChoices(r)...)), now)
				default:
					t.Fatalf("error %d", errno)
				}
				wantFiles(t, "what the store knows", s, now)
			}
			d = openAtLast(t, r, crash(t, d, randomChoices(r)...))
			got := told(t, open(t, d))
			switch {
			case got == under.text() && got != now.text():
				now = under
				with++
			case got == now.text():
				without++
			default:
				t.Fatalf("opened %s, wanted %s or %s", got, now.text(), under.text())
			}
		}
	}
	for _, errno := range []api.Errno{api.OK, api.ErrDisk, api.ErrFull, api.ErrOff} {
		if met[errno] < 300 {
			t.Errorf("error %d was met %d times", errno, met[errno])
		}
	}
	if with < 10 || without < 300 {
		t.Errorf("opened with the commit under way %d times, without %d times", with, without)
	}
}

// openAtLast opens a disk whose power goes some times during Open, and answers what is left then.
func openAtLast(t *testing.T, r *rand.Rand, d *fs.Disk) *fs.Disk {
	t.Helper()
	for range r.Intn(4) {
		refuse, off := randomPlan(r)
		d.Plan(refuse[:min(len(refuse), r.Intn(3))], off%20)
		s, errno := txfile.Open(d)
		if (s == nil) != (errno != api.OK) || errno != api.OK && errno != api.ErrOff && errno != api.ErrDisk {
			t.Fatalf("Open: %v, error %d", s, errno)
		}
		d = crash(t, d, randomChoices(r)...)
	}
	return d
}

// P2: the same calls answer the same again, and call the disk in the same order.
func TestSameAgain(t *testing.T) {
	run := func() string {
		r := rand.New(rand.NewSource(2))
		var all strings.Builder
		d := newDisk(t, 600)
		s := open(t, d)
		for range 50 {
			refuse, _ := randomPlan(r)
			d.Plan(refuse, 0)
			errno := s.Commit(randomChanges(r))
			all.WriteString(strconv.Itoa(int(errno)) + " " + strconv.Itoa(d.Count()) + " ")
			list, _ := crash(t, d, randomChoices(r)...).Files()
			all.WriteString(line(list) + "\n")
		}
		return all.String()
	}
	first := run()
	for range 5 {
		if run() != first {
			t.Fatalf("another answer")
		}
	}
}
