package fs_test

import (
	"testing"

	"codicil/api"
	"codicil/fs"
)

// Chapter 11, example 3.
func TestExamplePlan(t *testing.T) {
	d := newDisk(t, 100)
	d.Plan([]int{2}, 3)
	want(t, "Create", d.Create("a"), api.OK)
	want(t, "Append", d.Append("a", []byte("x")), api.ErrDisk)
	if d.Off() {
		t.Errorf("off too early")
	}
	want(t, "Append", d.Append("a", []byte("x")), api.ErrOff)
	_, errno := d.Read("a")
	want(t, "Read", errno, api.ErrOff)
	if !d.Off() || d.Count() != 3 {
		t.Errorf("off %v, count %d", d.Off(), d.Count())
	}
	wantCrash(t, d, `a=""`, 1)
}

// P11.2: each counted call counts while the power is on, whatever it answers; the others never do.
func TestCount(t *testing.T) {
	d := newDisk(t, 2)
	count := 0
	counts := func(what string, errno, wanted api.Errno) {
		t.Helper()
		count++
		want(t, what, errno, wanted)
		if d.Count() != count {
			t.Errorf("%s: count %d, wanted %d", what, d.Count(), count)
		}
	}
	counts("Create", d.Create("a"), api.OK)
	counts("Create again", d.Create("a"), api.ErrExists)
	counts("Create of no path", d.Create(""), api.ErrArg)
	counts("Append", d.Append("a", []byte("x")), api.OK)
	counts("Append, full", d.Append("a", []byte("xy")), api.ErrFull)
	counts("Append, long", d.Append("a", make([]byte, 2*api.MaxData)), api.ErrLong)
	counts("Append, none", d.Append("b", nil), api.ErrNone)
	counts("Sync", d.Sync("a"), api.OK)
	counts("Sync, none", d.Sync("b"), api.ErrNone)
	counts("Rename to itself", d.Rename("a", "a"), api.OK)
	counts("Rename", d.Rename("a", "b"), api.OK)
	counts("Rename, none", d.Rename("a", "b"), api.ErrNone)
	counts("SyncDir", d.SyncDir(""), api.OK)
	counts("SyncDir of no folder", d.SyncDir("//"), api.OK)
	counts("Remove", d.Remove("b"), api.OK)
	counts("Remove, none", d.Remove("b"), api.ErrNone)
	told(t, d)
	d.Read("a")
	d.Read("")
	d.Off()
	d.Count()
	crash(t, d, 1)
	if d.Count() != count {
		t.Errorf("calls that aren't counted: count %d, wanted %d", d.Count(), count)
	}
	d.Plan(nil, 0)
	if d.Count() != 0 {
		t.Errorf("behind Plan: count %d", d.Count())
	}
	d.Create("a")
	if d.Count() != 1 || crash(t, d, 1).Count() != 0 {
		t.Errorf("count %d, behind a crash %d", d.Count(), crash(t, d, 1).Count())
	}
}

// laid answers a disk on which each counted call of ("d/a", "d/b") but Create may be made.
func laid(t *testing.T) *fs.Disk {
	d := newDisk(t, 100)
	putLasting(t, d, "d/a", "1")
	put(t, d, "d/z", "23")
	return d
}

// Chapter 11, Words: a call that is refused changes nothing; SyncDir is never refused.
func TestRefused(t *testing.T) {
	for i := range 6 {
		d := laid(t)
		path := "d/a"
		if i == 0 {
			path = "d/new"
		}
		if i == 5 {
			path = "d"
		}
		before := told(t, d)
		left := told(t, crash(t, d, 0))
		d.Plan([]int{1}, 0)
		calls, what := counted(d, path, "d/b", []byte("x"))
		if i == 5 {
			want(t, what[i], calls[i](), api.OK)
			wantCrash(t, d, `d/a="1" d/z=""`, 0)
			continue
		}
		want(t, what[i], calls[i](), api.ErrDisk)
		wantFiles(t, what[i]+" refused", d, before)
		if d.Off() || d.Count() != 1 {
			t.Errorf("%s refused: off %v, count %d", what[i], d.Off(), d.Count())
		}
		wantCrash(t, d, left, 0)
		// The one pending change takes one choice: a refused one is none.
		wantCrash(t, d, `d/a="1" d/z="23"`, 1, 2, 0)
		want(t, what[i]+" again", calls[i](), api.OK)
	}
}

// Chapter 11, Errors: a call at which the power goes off, and each one behind it, answers ErrOff, whatever else applies;
// nothing happens.
func TestPowerOff(t *testing.T) {
	for i := range 6 {
		for _, path := range []string{"d/a", "d/new", "", "a//b", "d"} {
			d := laid(t)
			before := told(t, crash(t, d, 1, 2, 0))
			d.Plan([]int{1}, 1)
			calls, what := counted(d, path, "e/b", make([]byte, 101))
			want(t, what[i]+" at "+path, calls[i](), api.ErrOff)
			if !d.Off() || d.Count() != 1 {
				t.Errorf("%s at %q: off %v, count %d", what[i], path, d.Off(), d.Count())
			}
			for k, call := range calls {
				want(t, what[k]+" with the power off", call(), api.ErrOff)
			}
			p, errno := d.Read(path)
			want(t, "Read with the power off", errno, api.ErrOff)
			list, errno := d.Files()
			want(t, "Files with the power off", errno, api.ErrOff)
			if len(p) != 0 || len(list) != 0 {
				t.Errorf("bytes or files beside an error")
			}
			if d.Count() != 1 {
				t.Errorf("calls with the power off were counted: %d", d.Count())
			}
			wantCrash(t, d, before, 1, 2, 0)
		}
	}
}

// Chapter 11, Words: with the power off a plan is taken, and counting begins anew, but the power stays off.
func TestPlanWithPowerOff(t *testing.T) {
	d := newDisk(t, 100)
	d.Plan(nil, 1)
	want(t, "Create", d.Create("a"), api.ErrOff)
	d.Plan(nil, 0)
	want(t, "Create", d.Create("a"), api.ErrOff)
	_, errno := d.Files()
	want(t, "Files", errno, api.ErrOff)
	if !d.Off() || d.Count() != 0 {
		t.Errorf("off %v, count %d", d.Off(), d.Count())
	}
	left := crash(t, d)
	want(t, "Create behind the crash", left.Create("a"), api.OK)
	if left.Off() {
		t.Errorf("off behind the crash")
	}
}

// Chapter 11, Words: numbers of a plan may be 0, below 0, told twice, or stand in any order.
func TestOddPlans(t *testing.T) {
	d := newDisk(t, 100)
	put(t, d, "a", "")
	d.Plan([]int{5, 2, 0, -1, 2, 2, -7}, 0)
	for i := range 7 {
		wanted := api.OK
		if i == 1 || i == 4 {
			wanted = api.ErrDisk
		}
		want(t, "Sync", d.Sync("a"), wanted)
	}
	for _, off := range []int{0, -1, -3} {
		d.Plan(nil, off)
		for range 5 {
			want(t, "Sync", d.Sync("a"), api.OK)
		}
	}
	// A new plan is in the place of the old one.
	d.Plan([]int{1, 2}, 3)
	want(t, "Sync", d.Sync("a"), api.ErrDisk)
	d.Plan([]int{2}, 0)
	for i := range 5 {
		wanted := api.OK
		if i == 1 {
			wanted = api.ErrDisk
		}
		want(t, "Sync", d.Sync("a"), wanted)
	}
	// Behind a crash there is none.
	d.Plan([]int{1, 2}, 3)
	left := crash(t, d, 1)
	for range 5 {
		want(t, "Sync behind a crash", left.Sync("a"), api.OK)
	}
}

// Chapter 11, Errors: the order: no path, then the refusal, then what the files have against the call. A refusal is told
// ahead of each later error, and its call counts where its path is none, too.
func TestOrderOfErrors(t *testing.T) {
	d := newDisk(t, 10)
	put(t, d, "a", "1")
	all := []int{1, 2, 3, 4, 5, 6, 7, 8}
	d.Plan(all, 0)
	want(t, "no path, refused", d.Create(""), api.ErrArg)
	want(t, "unlike folders, refused", d.Rename("a", "d/a"), api.ErrArg)
	want(t, "there is one, refused", d.Create("a"), api.ErrDisk)
	want(t, "there is none, refused", d.Remove("b"), api.ErrDisk)
	want(t, "too long, refused", d.Append("a", make([]byte, 2*api.MaxData)), api.ErrDisk)
	want(t, "too full, refused", d.Append("a", make([]byte, 10)), api.ErrDisk)
	want(t, "there is none, refused", d.Rename("b", "b"), api.ErrDisk)
	want(t, "SyncDir", d.SyncDir(""), api.OK)
	want(t, "behind the plan", d.Remove("b"), api.ErrNone)
	d.Plan(nil, 0)
	want(t, "unlike folders, none", d.Rename("b", "d/a"), api.ErrArg)
	want(t, "none, too long", d.Append("b", make([]byte, 2*api.MaxData+1)), api.ErrNone)
	want(t, "too long, too full", d.Append("a", make([]byte, 2*api.MaxData)), api.ErrLong)
	wantFiles(t, "nothing changed", d, `a="1"`)
}

// P11.2: Read and Files are never refused, and answer what is there now, synced or not.
func TestReadAndFiles(t *testing.T) {
	d := newDisk(t, 100)
	for _, path := range []string{"b", "a/b", "a.b", "a", "a0", "a/b/c", "\xff"} {
		put(t, d, path, path)
	}
	d.Plan([]int{1, 2, 3}, 1)
	wantFiles(t, "rising", d, "a=\"a\" a.b=\"a.b\" a/b=\"a/b\" a/b/c=\"a/b/c\" a0=\"a0\" b=\"b\" \xff=\"\\xff\"")
	for _, path := range []string{"b", "a/b", "\xff"} {
		p, errno := d.Read(path)
		if string(p) != path || errno != api.OK {
			t.Errorf("Read(%q): %q, %d", path, p, errno)
		}
	}
	for _, path := range []string{"c", "a/c", "b/a"} {
		p, errno := d.Read(path)
		if len(p) != 0 || errno != api.ErrNone {
			t.Errorf("Read(%q): %q, %d", path, p, errno)
		}
	}
}
