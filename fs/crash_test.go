package fs_test

import (
	"math/rand"
	"slices"
	"strconv"
	"strings"
	"testing"

	"codicil/api"
	"codicil/fs"
)

// Chapter 11, example 1. (Choices are used over and over, so those that leave xy end with a 0: behind 1, 2 comes 1 again,
// which is odd.)
func TestExampleCrash(t *testing.T) {
	d := newDisk(t, 100)
	put(t, d, "a/b", "xyz")
	wantCrash(t, d, "", 0)
	wantCrash(t, d, "")
	wantCrash(t, d, `a/b="xy"`, 1, 2, 0)
	wantCrash(t, d, `a/b="\x00\x00"`, 1, 2)
	wantCrash(t, d, `a/b="\x00\x00\x00"`, 1, 3, 1)
	want(t, "Sync", d.Sync("a/b"), api.OK)
	want(t, "SyncDir", d.SyncDir("a"), api.OK)
	for c := range 256 {
		wantCrash(t, d, `a/b="xyz"`, uint8(c), uint8(c/2), uint8(c/3))
	}
	wantCrash(t, d, `a/b="xyz"`)
}

// P11.3: a choice is taken modulo the count of pending changes and 1: the first ones of a folder have been made.
func TestCrashChoosesNames(t *testing.T) {
	d := newDisk(t, 100)
	putLasting(t, d, "d/a", "1")
	want(t, "Create", d.Create("d/b"), api.OK)
	want(t, "Rename", d.Rename("d/a", "d/c"), api.OK)
	want(t, "Rename onto a file", d.Rename("d/c", "d/b"), api.OK)
	want(t, "Remove", d.Remove("d/b"), api.OK)
	want(t, "Create", d.Create("d/b"), api.OK)
	wanted := []string{`d/a="1"`, `d/a="1" d/b=""`, `d/b="" d/c="1"`, `d/b="1"`, ``, `d/b=""`}
	for c := range 256 {
		wantCrash(t, d, wanted[c%6], uint8(c))
	}
}

// P11.3: folders take their choices by their texts, whatever the order in which their changes were made.
func TestCrashOrdersFolders(t *testing.T) {
	paths := []string{"x", "A/x", "a/x", "a.b/x", "a/b/x", "b/x", "\xff/x"}
	for _, path := range slices.Backward(paths) {
		d := newDisk(t, 100)
		want(t, "Create", d.Create(path), api.OK)
		wantCrash(t, d, path+`=""`, 1, 0)
	}
	d := newDisk(t, 100)
	for _, i := range []int{4, 2, 6, 0, 3, 5, 1} {
		want(t, "Create", d.Create(paths[i]), api.OK)
	}
	folders := []string{"", "A", "a", "a.b", "a/b", "b", "\xff"}
	slices.Sort(folders)
	for i, folder := range folders {
		choices := make([]uint8, len(folders))
		choices[i] = 1
		path := strings.TrimPrefix(folder+"/x", "/")
		wantCrash(t, d, path+`=""`, choices...)
	}
}

// P11.3: each count of pending changes of two folders.
func TestCrashOfTwoFolders(t *testing.T) {
	for n := range 5 {
		for m := range 5 {
			d := newDisk(t, 100)
			for i := range n {
				want(t, "Create", d.Create("a/"+strconv.Itoa(i)), api.OK)
			}
			for i := range m {
				want(t, "Create", d.Create("b/"+strconv.Itoa(i)), api.OK)
			}
			for c := range 7 {
				for e := range 7 {
					checkTwoFolders(t, d, n, m, c, e)
				}
			}
		}
	}
}

// checkTwoFolders asks how many files of a and b a crash leaves.
func checkTwoFolders(t *testing.T, d *fs.Disk, n, m, c, e int) {
	t.Helper()
	choices := []uint8{uint8(c), uint8(e)}
	if n == 0 {
		choices = []uint8{uint8(e), uint8(c)}
	}
	var wanted []string
	for i := range c % (n + 1) {
		wanted = append(wanted, "a/"+strconv.Itoa(i)+`=""`)
	}
	for i := range e % (m + 1) {
		wanted = append(wanted, "b/"+strconv.Itoa(i)+`=""`)
	}
	wantCrash(t, d, strings.Join(wanted, " "), choices...)
}

// P11.3: of the bytes that aren't synced the first ones are there, all 0 if the second choice is odd; those that are
// synced always are.
func TestCrashChoosesBytes(t *testing.T) {
	d := newDisk(t, 1000)
	putLasting(t, d, "a", "12")
	want(t, "Append", d.Append("a", []byte("34")), api.OK)
	want(t, "Append", d.Append("a", []byte("567")), api.OK)
	for c := range 256 {
		for e := range 4 {
			wanted := "1234567"[:2+c%6]
			if e%2 == 1 {
				wanted = "12" + "\x00\x00\x00\x00\x00"[:c%6]
			}
			wantCrash(t, d, "a="+strconv.Quote(wanted), uint8(c), uint8(e))
		}
	}
	// All but the first 255 of many bytes are beyond what a choice can tell.
	long := newDisk(t, 1000)
	putLasting(t, long, "a", "")
	want(t, "Append", long.Append("a", []byte(strings.Repeat("x", 300))), api.OK)
	wantCrash(t, long, `a="`+strings.Repeat("x", 254)+`"`, 254)
	wantCrash(t, long, `a="`+strings.Repeat(`\x00`, 255)+`"`, 255)
	want(t, "Sync", long.Sync("a"), api.OK)
	want(t, "Append", long.Append("a", []byte("y")), api.OK)
	wantCrash(t, long, `a="`+strings.Repeat("x", 300)+`"`, 254)
}

// P11.3: paths take their choices rising, behind all folders; files whose bytes are all synced, or have none, take none,
// nor do files without a name then.
func TestCrashOrdersPaths(t *testing.T) {
	d := newDisk(t, 1000)
	putLasting(t, d, "s", "synced")
	for _, path := range []string{"d/x", "d.x", "b", "a"} {
		put(t, d, path, path)
	}
	want(t, "Create", d.Create("aa"), api.OK)
	put(t, d, "ab", "gone")
	want(t, "Remove", d.Remove("ab"), api.OK)
	// The folder "" has d.x, b, a, aa, ab pending, and that ab is removed; the folder d has d/x.
	wantCrash(t, d, `a="\x00" aa="" b="b" d.x="\x00\x00" d/x="d/x" s="synced"`, 6, 1, 1, 1, 1, 0, 2, 1, 3, 0)
	// With ab not removed yet, its file takes two choices as well.
	wantCrash(t, d, `a="\x00" aa="" ab="go" b="b" d.x="\x00\x00" d/x="d/x" s="synced"`, 5, 1, 1, 1, 2, 0, 1, 0, 2, 1, 3, 0)
	// Without d/x the choices end one file earlier, and go on from the front.
	wantCrash(t, d, `a="a" aa="" b="" d.x="d." s="synced"`, 6, 0, 1)
}

// P11.3: choices that run out begin anew from their front; none are all 0.
func TestCrashUsesChoicesOverAndOver(t *testing.T) {
	r := rand.New(rand.NewSource(7))
	d := newDisk(t, 1000)
	for i := range 5 {
		for k := range 3 {
			put(t, d, string(rune('a'+i))+"/"+strconv.Itoa(k), strings.Repeat("x", k+i))
		}
	}
	for range 200 {
		choices := make([]uint8, 1+r.Intn(6))
		for i := range choices {
			choices[i] = uint8(r.Intn(256))
		}
		many := slices.Repeat(choices, 20)
		wantCrash(t, d, told(t, crash(t, d, many...)), choices...)
	}
	wantCrash(t, d, told(t, crash(t, d, 0)))
	wantCrash(t, d, told(t, crash(t, d, []uint8{}...)))
}

// P11.3: d itself isn't changed, whether its power is on or off.
func TestCrashLeavesDisk(t *testing.T) {
	d := newDisk(t, 100)
	putLasting(t, d, "d/a", "1")
	put(t, d, "d/b", "234")
	want(t, "Append", d.Append("d/a", []byte("5")), api.OK)
	d.Plan([]int{2}, 3)
	want(t, "Sync", d.Sync("d/b"), api.OK)
	before := told(t, d)
	wanted := make([]string, 12)
	for round := range 3 {
		for c := range 12 {
			got := told(t, crash(t, d, uint8(c), 1, 0))
			if round > 0 && got != wanted[c] {
				t.Errorf("Crash(%d, 1, 0) in round %d: %s, wanted %s", c, round, got, wanted[c])
			}
			wanted[c] = got
		}
		if round == 0 {
			wantFiles(t, "behind Crash", d, before)
			if d.Off() || d.Count() != 1 {
				t.Errorf("off %v, count %d", d.Off(), d.Count())
			}
			want(t, "the plan stands", d.Remove("d/a"), api.ErrDisk)
			want(t, "the plan stands", d.Remove("d/a"), api.ErrOff)
		}
	}
	if !d.Off() || d.Count() != 3 {
		t.Errorf("off %v, count %d", d.Off(), d.Count())
	}
}

// P11.3: in the new disk all lasts and nothing is pending: a crash of it, whatever the choices, has the same files.
func TestCrashOfCrash(t *testing.T) {
	d := newDisk(t, 10)
	put(t, d, "d/a", "12345")
	put(t, d, "b", "67")
	d.Plan(nil, 1)
	want(t, "Sync", d.Sync("b"), api.ErrOff)
	left := crash(t, d, 1, 1, 2, 0, 3, 1)
	wantFiles(t, "Crash", left, `b="67" d/a="\x00\x00\x00"`)
	for c := range 6 {
		wantCrash(t, left, `b="67" d/a="\x00\x00\x00"`, uint8(c), uint8(c/2), uint8(c/3))
	}
	if left.Off() || left.Count() != 0 {
		t.Errorf("off %v, count %d", left.Off(), left.Count())
	}
	// Its quota is the old one's, and what is changed in it is pending again.
	want(t, "six bytes", left.Append("b", []byte("123456")), api.ErrFull)
	want(t, "five bytes", left.Append("b", []byte("12345")), api.OK)
	wantCrash(t, left, `b="671" d/a="\x00\x00\x00"`, 1, 0)
	want(t, "Remove", left.Remove("d/a"), api.OK)
	wantCrash(t, left, `b="67" d/a="\x00\x00\x00"`, 0)
	wantCrash(t, left, `b="6712"`, 1, 2, 0)
}

// P11.4: what was synced, under a name whose folder was synced behind the last change of its names, is there behind each
// crash, byte by byte.
func TestSyncedLasts(t *testing.T) {
	r := rand.New(rand.NewSource(114))
	for round := range 300 {
		d := newDisk(t, 200)
		lasting := map[string]string{}   // what must be there, by paths
		changed := map[string]struct{}{} // folders whose names were changed behind their last SyncDir
		synced := map[string]string{}    // the bytes of a path's file that were synced
		all := []string{"a", "b", "d/a", "d/b", "e/a"}
		for range 60 {
			from, to := all[r.Intn(len(all))], all[r.Intn(len(all))]
			switch r.Intn(6) {
			case 0:
				if d.Create(from) == api.OK {
					changed[folderOf(from)] = struct{}{}
					synced[from] = ""
				}
			case 1:
				d.Append(from, []byte{byte('a' + r.Intn(26)), byte(round)})
			case 2:
				if d.Sync(from) == api.OK {
					p, _ := d.Read(from)
					synced[from] = string(p)
				}
			case 3:
				if d.Rename(from, to) == api.OK && from != to {
					changed[folderOf(from)] = struct{}{}
					synced[to] = synced[from]
					delete(synced, from)
				}
			case 4:
				if d.Remove(from) == api.OK {
					changed[folderOf(from)] = struct{}{}
					delete(synced, from)
				}
			case 5:
				d.SyncDir(folderOf(from))
				delete(changed, folderOf(from))
			}
			clear(lasting)
			for path, data := range synced {
				if _, is := changed[folderOf(path)]; !is {
					lasting[path] = data
				}
			}
			for range 4 {
				choices := make([]uint8, 1+r.Intn(9))
				r.Read(choices)
				left := crash(t, d, choices...)
				for path, data := range lasting {
					p, errno := left.Read(path)
					if errno != api.OK || !strings.HasPrefix(string(p), data) {
						t.Fatalf("%s: %q, error %d, wanted %q", path, p, errno, data)
					}
				}
			}
		}
	}
}
