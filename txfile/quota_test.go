package txfile_test

import (
	"math/rand"
	"strconv"
	"strings"
	"testing"

	"codicil/api"
	"codicil/fs"
	"codicil/txfile"
)

// least answers the quota that P12.4 asks for.
func least(x state, list []txfile.Change) int {
	size := 1000 + 300*(len(x)+len(list))
	for _, data := range x {
		size += len(data)
	}
	for _, c := range list {
		size += len(c.Data)
	}
	return 4 * size
}

// holding answers a disk that has a state's files below data/, though it may have too little room to commit them.
func holding(t *testing.T, quota int, x state) *fs.Disk {
	t.Helper()
	d := newDisk(t, quota)
	for path, data := range x {
		path = "data/" + path
		want(t, "Create", d.Create(path), api.OK)
		want(t, "Append", d.Append(path, []byte(data)), api.OK)
		want(t, "Sync", d.Sync(path), api.OK)
		want(t, "SyncDir", d.SyncDir(path[:strings.LastIndexByte(path, '/')]), api.OK)
	}
	return d
}

// P12.2: with every quota a commit is made or has ErrFull, and behind each crash of it Open has no error: what was promised
// can be made later, whatever the quota.
func TestEveryQuota(t *testing.T) {
	before := state{"a": "a small file", "d/b": strings.Repeat("b", 40), "d/c": "", "e": "to go"}
	list := changes(has("a", strings.Repeat("A", 50)), has("d/b", "short now"), gone("e"), has("n/n", strings.Repeat("n", 30)), has("d/c", "x"))
	after := before.with(list)
	made, full := 0, 0
	for quota := 57; quota < 420; quota++ {
		d := holding(t, quota, before)
		whole := crash(t, d)
		errno := open(t, whole).Commit(list)
		if errno == api.ErrFull {
			full++
			wantDisk(t, "a full disk", whole, before)
			continue
		}
		want(t, "Commit", errno, api.OK)
		made++
		wantDisk(t, "Commit", whole, after)
		for off := range whole.Count() {
			c, errno := cut(t, d, off+1, before, list)
			for _, choices := range fewWays() {
				left := crash(t, c, choices...)
				wantOneOf(t, "behind the crash", left, errno, before, after)
			}
		}
	}
	if made < 50 || full < 50 {
		t.Errorf("%d commits were made, %d were too full", made, full)
	}
}

// P12.2: on a disk that is as full as a commit lets it be, the power goes during Open, again and again.
func TestFullDiskDuringOpen(t *testing.T) {
	before := state{"a": "a small file", "d/b": strings.Repeat("b", 40), "e": "to go"}
	list := changes(has("a", strings.Repeat("A", 50)), has("d/b", "short now"), gone("e"), has("n/n", strings.Repeat("n", 30)))
	quota := 200
	for open(t, holding(t, quota, before)).Commit(list) == api.ErrFull {
		quota++
	}
	d := holding(t, quota, before)
	for off := range calls(t, d, list) {
		c, errno := cut(t, d, off+1, before, list)
		for _, left := range lefts(t, c, fewWays()) {
			wanted := before
			if wantOneOf(t, "behind the crash", crash(t, left), errno, before, before.with(list)) {
				wanted = before.with(list)
			}
			openCut(t, left, wanted, 2)
		}
	}
}

// shapes answers states and changes of many kinds, for P12.4.
func shapes() ([]state, [][]txfile.Change) {
	big := strings.Repeat("x", api.MaxData)
	many, manyLong := state{}, state{}
	var rewrite, remove, long []txfile.Change
	for i := range 1000 {
		path := "many/" + strconv.Itoa(i)
		many[path] = strconv.Itoa(i)
		rewrite = append(rewrite, has(path, ""))
		remove = append(remove, gone(path))
	}
	for i := range api.MaxEntries {
		path := longPath(174) + "/" + strconv.Itoa(10000+i)
		manyLong[path] = ""
		long = append(long, has(path, ""))
	}
	return []state{nil, nil, nil, {"a": big}, {"a": big}, {"a": big, "b": big}, many, many, nil, manyLong, {"a": "x"}},
		[][]txfile.Change{
			changes(has("a", "")), changes(gone("a")), changes(has("a", big)), changes(has("a", big)), changes(gone("a")),
			changes(has("b", "x")), rewrite, remove, long, append(long[1:], has("n", big)), nil,
		}
}

// P12.4: where nothing is refused, the power stays on, and the quota is the least that is asked for, a commit is made.
func TestLeastQuota(t *testing.T) {
	states, lists := shapes()
	for i, before := range states {
		list := lists[i]
		d := holding(t, least(before, list), before)
		s := open(t, d)
		wantFiles(t, "Open", s, before)
		want(t, "Commit with the least quota, shape "+strconv.Itoa(i), s.Commit(list), api.OK)
		wantDisk(t, "Commit with the least quota", d, before.with(list))
	}
}

// P12.4: the same behind a commit that was refused at any call, whatever it left, and behind a crash.
func TestLeastQuotaBehindRefusals(t *testing.T) {
	before := state{"a": strings.Repeat("a", 2000), "d/b": strings.Repeat("b", 3000)}
	first := changes(has("a", strings.Repeat("A", 5000)), has("n/n", strings.Repeat("n", 4000)), gone("d/b"))
	next := changes(has("a", strings.Repeat("x", 5000)), has("n/m", strings.Repeat("y", 4000)), has("d/b", ""))
	quota := max(least(before, first), least(before, next))
	d, _ := filled(t, quota, before)
	all := calls(t, d, first)
	for k := range all {
		c, s, wanted := refused(t, d, from(k+1, all+9), before, first)
		c.Plan(nil, 0)
		want(t, "Commit behind refusals", s.Commit(next), api.OK)
		wantDisk(t, "Commit behind refusals", c, wanted.with(next))
		c, _ = cut(t, d, k+1, before, first)
		for _, choices := range fewWays() {
			s := open(t, crash(t, c, choices...))
			want(t, "Commit behind a crash", s.Commit(next), api.OK)
		}
	}
}

// P12.4: a store whose commits are made, one behind another, each with the least quota for it, never is too full: what was
// replaced or removed takes no room.
func TestRunsWithLeastQuota(t *testing.T) {
	r := rand.New(rand.NewSource(124))
	for range 40 {
		quota := 4 * (1000 + 8*300 + 1000)
		d := newDisk(t, quota)
		s := open(t, d)
		now := state{}
		for range 60 {
			var list []txfile.Change
			for _, i := range r.Perm(8)[:r.Intn(4)] {
				path := "d" + strconv.Itoa(i%3) + "/" + strconv.Itoa(i)
				if r.Intn(4) == 0 {
					list = append(list, gone(path))
				} else {
					list = append(list, has(path, strings.Repeat("x", r.Intn(250))))
				}
			}
			errno := s.Commit(list)
			if least(now, list) <= quota {
				want(t, "Commit", errno, api.OK)
			}
			if errno == api.OK {
				now = now.with(list)
			}
			wantDisk(t, "Commit", d, now)
		}
	}
}
