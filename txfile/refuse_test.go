package txfile_test

import (
	"strings"
	"testing"

	"codicil/api"
	"codicil/fs"
	"codicil/txfile"
)

// refused commits on a copy of a disk with a plan of refusals, and asks all that P12.2 says of what is answered. It answers
// the copy, its store, and the store's state.
func refused(t *testing.T, d *fs.Disk, refuse []int, before state, list []txfile.Change) (*fs.Disk, *txfile.Store, state) {
	t.Helper()
	c := crash(t, d)
	s := open(t, c)
	c.Plan(refuse, 0)
	wanted := before
	switch errno := s.Commit(list); errno {
	case api.OK:
		wanted = before.with(list)
	case api.ErrDisk:
	default:
		t.Fatalf("refused %v: error %d", refuse, errno)
	}
	wantFiles(t, "refused", s, wanted)
	for _, choices := range fewWays() {
		wantFiles(t, "refused, behind a crash", open(t, crash(t, c, choices...)), wanted)
	}
	return c, s, wanted
}

// from answers the numbers from the first to the last one.
func from(first, last int) []int {
	var list []int
	for i := first; i <= last; i++ {
		list = append(list, i)
	}
	return list
}

// P12.2: a refusal at each counted call of a commit: it is made or has ErrDisk, and so it is behind each crash; the next
// commit, of which nothing is refused, is made.
func TestRefusalAtEachCall(t *testing.T) {
	before, list := some()
	next := changes(has("a", "next"), gone("d/a"), has("n/m", "next"))
	d, _ := filled(t, plenty, before)
	made, errors := 0, 0
	for k := range calls(t, d, list) {
		c, s, wanted := refused(t, d, []int{k + 1}, before, list)
		if len(wanted) == len(before) && wanted["a"] == before["a"] {
			errors++
		} else {
			made++
		}
		wantFiles(t, "another store of the disk", open(t, crash(t, c, 255, 255)), wanted)
		c.Plan(nil, 0)
		want(t, "the next commit", s.Commit(next), api.OK)
		wantFiles(t, "the next commit", s, wanted.with(next))
		wantDisk(t, "the next commit", c, wanted.with(next))
	}
	if made < 5 || errors < 5 {
		t.Errorf("%d commits were made, %d weren't", made, errors)
	}
}

// P12.2: a commit that isn't made, of which one call alone is refused, leaves nothing on the disk.
func TestRefusedIsClearedAway(t *testing.T) {
	before, list := some()
	d, _ := filled(t, plenty, before)
	for k := range calls(t, d, list) {
		c := crash(t, d)
		s := open(t, c)
		c.Plan([]int{k + 1}, 0)
		if s.Commit(list) != api.OK {
			wantDisk(t, "a commit that isn't made", c, before)
		}
	}
}

// Chapter 12, Errors: the order ErrOff, ErrDisk, ErrFull: a commit isn't made, as it was refused or the disk was full, and
// at the clearing behind it the power goes, or a call is refused: that is the error, and none of the changes is made.
func TestErrorsOfClearing(t *testing.T) {
	before, list := some()
	big := changes(has("d/c", strings.Repeat("x", 600)))
	d, _ := filled(t, 500, before)
	offs, disks := 0, 0
	for k := range calls(t, d, list) {
		for _, plan := range []struct {
			refuse []int
			off    int
			list   []txfile.Change
		}{{[]int{k + 1}, k + 2, list}, {[]int{k + 1}, k + 3, list}, {nil, k + 1, big}, {[]int{k + 1}, 0, big}} {
			c := crash(t, d)
			s := open(t, c)
			c.Plan(plan.refuse, plan.off)
			errno := s.Commit(plan.list)
			if errno == api.OK {
				continue
			}
			if c.Off() {
				want(t, "the power went", errno, api.ErrOff)
				offs++
			} else if c.Count() > k {
				want(t, "refused", errno, api.ErrDisk)
				disks++
			} else {
				want(t, "full", errno, api.ErrFull)
			}
			for _, left := range append(lefts(t, c, fewWays()), crash(t, c, 255)) {
				if got := told(t, open(t, left)); got != before.text() && !(errno == api.ErrOff && got == before.with(plan.list).text()) {
					t.Errorf("behind the crash: %s", got)
				}
			}
		}
	}
	if offs < 10 || disks < 5 {
		t.Errorf("the power went %d times, %d times a call was refused", offs, disks)
	}
}

// P12.2: two refusals, at each two counted calls of a commit and of the clearing behind it, and refusals from each call on.
func TestRefusalsAtManyCalls(t *testing.T) {
	before, list := some()
	next := changes(has("a", "next"), gone("x/y"))
	d, _ := filled(t, plenty, before)
	all := calls(t, d, list)
	var plans [][]int
	for k := range all {
		plans = append(plans, from(k+1, all+9), from(k+1, k+3), append(from(1, 0), k+1, k+3))
		for m := k + 1; m < all; m++ {
			plans = append(plans, []int{k + 1, m + 1})
		}
	}
	for _, plan := range plans {
		c, s, wanted := refused(t, d, plan, before, list)
		c.Plan(nil, 0)
		want(t, "the next commit", s.Commit(next), api.OK)
		wantDisk(t, "the next commit", c, wanted.with(next))
		wantFiles(t, "behind a crash", open(t, crash(t, c)), wanted.with(next))
	}
}

// P12.2: what a commit left to be made is made by a later call ahead of anything else; where that is refused too, that call
// has the error, and the later commit isn't made.
func TestRefusalsOfLaterCalls(t *testing.T) {
	before, list := some()
	next := changes(has("a", "next"), has("d/e/f", "next"), gone("n/n"))
	d, _ := filled(t, plenty, before)
	all := calls(t, d, list)
	for k := range all {
		for m := range 30 {
			c, s, wanted := refused(t, d, from(k+1, all+9), before, list)
			c.Plan([]int{m + 1}, 0)
			switch errno := s.Commit(next); errno {
			case api.OK:
				wanted = wanted.with(next)
			case api.ErrDisk:
			default:
				t.Fatalf("error %d", errno)
			}
			wantFiles(t, "the later commit", s, wanted)
			for _, choices := range fewWays()[:4] {
				wantFiles(t, "behind a crash", open(t, crash(t, c, choices...)), wanted)
			}
			c.Plan(nil, 0)
			want(t, "no change", s.Commit(nil), api.OK)
			wantDisk(t, "no change", c, wanted)
		}
	}
}

// P12.2: of a commit that left something to be made a later one, in which nothing is refused but the power goes, leaves the
// states that P12.3 says.
func TestPowerGoesBehindRefusals(t *testing.T) {
	before, list := some()
	next := changes(has("a", "next"), has("d/e/f", "next"), gone("n/n"))
	d, _ := filled(t, plenty, before)
	all := calls(t, d, list)
	for k := 0; k < all; k += 2 {
		for off := 1; ; off++ {
			c, s, wanted := refused(t, d, from(k+1, all+9), before, list)
			c.Plan(nil, off)
			errno := s.Commit(next)
			for _, choices := range fewWays() {
				wantOneOf(t, "behind the crash", crash(t, c, choices...), errno, wanted, wanted.with(next))
			}
			if !c.Off() {
				break
			}
		}
	}
}

// Chapter 12, Errors: Open: what the disk refuses while a commit is ended is Open's error; a later Open ends it.
func TestRefusalsOfOpen(t *testing.T) {
	before, list := some()
	after := before.with(list)
	d, _ := filled(t, plenty, before)
	met := 0
	for off := range calls(t, d, list) {
		c, errno := cut(t, d, off+1, before, list)
		for _, left := range lefts(t, c, fewWays()) {
			wanted := before
			if wantOneOf(t, "behind the crash", crash(t, left), errno, before, after) {
				wanted = after
			}
			met += openRefused(t, left, wanted)
		}
	}
	if met < 100 {
		t.Errorf("%d Opens were refused", met)
	}
}

// openRefused opens copies of a disk that refuses each call of Open in turn, and answers how many Opens had an error.
func openRefused(t *testing.T, d *fs.Disk, wanted state) int {
	t.Helper()
	met := 0
	for k := 1; ; k++ {
		c := crash(t, d)
		c.Plan([]int{k}, 0)
		s, errno := txfile.Open(c)
		if errno == api.OK {
			wantFiles(t, "Open", s, wanted)
		} else {
			met++
			want(t, "Open, refused", errno, api.ErrDisk)
			if s != nil {
				t.Fatalf("a store beside an error")
			}
			for _, choices := range fewWays() {
				wantFiles(t, "Open behind a crash", open(t, crash(t, c, choices...)), wanted)
			}
		}
		if c.Count() < k {
			return met
		}
		c.Plan(nil, 0)
		wantFiles(t, "Open again", open(t, c), wanted)
		wantDisk(t, "Open again", c, wanted)
	}
}
