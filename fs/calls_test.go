package fs_test

import (
	"bytes"
	"math"
	"strings"
	"testing"
	"unsafe"

	"codicil/api"
	"codicil/fs"
)

// Chapter 11, New: a quota below 0 is none; 0 is one.
func TestNew(t *testing.T) {
	for _, quota := range []int{-1, -2, math.MinInt} {
		d, errno := fs.New(quota)
		want(t, "New below 0", errno, api.ErrArg)
		if d != nil {
			t.Errorf("New(%d): a disk beside an error", quota)
		}
	}
	for _, quota := range []int{0, 1, 100, math.MaxInt} {
		d := newDisk(t, quota)
		wantFiles(t, "a new disk", d, "")
		if d.Off() || d.Count() != 0 {
			t.Errorf("New(%d): off %v, count %d", quota, d.Off(), d.Count())
		}
		want(t, "Create", d.Create("a"), api.OK)
		wanted := api.OK
		if quota == 0 {
			wanted = api.ErrFull
		}
		want(t, "Append of a byte", d.Append("a", []byte("x")), wanted)
		want(t, "Append of none", d.Append("a", nil), api.OK)
	}
}

// P11.1: Create: the path has a new file without bytes.
func TestCreate(t *testing.T) {
	d := newDisk(t, 100)
	want(t, "Create", d.Create("a/b"), api.OK)
	wantFiles(t, "Create", d, `a/b=""`)
	want(t, "Append", d.Append("a/b", []byte("x")), api.OK)
	want(t, "Create again", d.Create("a/b"), api.ErrExists)
	wantFiles(t, "Create again", d, `a/b="x"`)
	want(t, "Create of a folder's path", d.Create("a"), api.OK)
	want(t, "Create below a file's path", d.Create("a/b/c"), api.OK)
	wantFiles(t, "folders and files", d, `a="" a/b="x" a/b/c=""`)
	want(t, "Remove", d.Remove("a/b"), api.OK)
	want(t, "Create behind Remove", d.Create("a/b"), api.OK)
	wantFiles(t, "a new file", d, `a="" a/b="" a/b/c=""`)
}

// P11.1: Append: p stands behind the bytes; none too.
func TestAppend(t *testing.T) {
	d := newDisk(t, 100)
	put(t, d, "a", "xyz")
	put(t, d, "b", "1")
	want(t, "Append", d.Append("a", []byte("uv")), api.OK)
	want(t, "Append nil", d.Append("a", nil), api.OK)
	want(t, "Append empty", d.Append("a", []byte{}), api.OK)
	want(t, "Append", d.Append("b", []byte{0, 255}), api.OK)
	wantFiles(t, "Append", d, `a="xyzuv" b="1\x00\xff"`)
	want(t, "Append without a file", d.Append("c", nil), api.ErrNone)
	wantFiles(t, "Append without a file", d, `a="xyzuv" b="1\x00\xff"`)
}

// P11.1: Rename: the file has the other name alone; what that named before has no name any more.
func TestRename(t *testing.T) {
	d := newDisk(t, 100)
	put(t, d, "d/a", "1")
	put(t, d, "d/b", "22")
	want(t, "Rename", d.Rename("d/a", "d/c"), api.OK)
	wantFiles(t, "Rename", d, `d/b="22" d/c="1"`)
	want(t, "Rename onto a file", d.Rename("d/b", "d/c"), api.OK)
	wantFiles(t, "Rename onto a file", d, `d/c="22"`)
	want(t, "Append", d.Append("d/c", []byte("3")), api.OK)
	want(t, "Append to the old name", d.Append("d/b", []byte("3")), api.ErrNone)
	wantFiles(t, "Append", d, `d/c="223"`)
	want(t, "Rename without a file", d.Rename("d/b", "d/c"), api.ErrNone)
	want(t, "Rename without a file to itself", d.Rename("d/b", "d/b"), api.ErrNone)
	wantFiles(t, "Rename without a file", d, `d/c="223"`)
	put(t, d, "x", "")
	want(t, "Rename of no folder", d.Rename("x", "y"), api.OK)
	wantFiles(t, "Rename of no folder", d, `d/c="223" y=""`)
}

// P11.1: Rename from a path to itself: nothing happens, so that nothing is pending either.
func TestRenameToItself(t *testing.T) {
	d := newDisk(t, 100)
	putLasting(t, d, "d/a", "1")
	want(t, "Rename to itself", d.Rename("d/a", "d/a"), api.OK)
	wantFiles(t, "Rename to itself", d, `d/a="1"`)
	want(t, "Append", d.Append("d/a", []byte("23")), api.OK)
	// The first two choices are the bytes': no folder takes one.
	wantCrash(t, d, `d/a="12"`, 1, 2)
	want(t, "the whole quota", d.Append("d/a", make([]byte, 97)), api.OK)
	want(t, "beyond the quota", d.Append("d/a", make([]byte, 1)), api.ErrFull)
}

// P11.1: Remove: the path has no file.
func TestRemove(t *testing.T) {
	d := newDisk(t, 100)
	put(t, d, "a", "1")
	put(t, d, "b", "2")
	want(t, "Remove", d.Remove("a"), api.OK)
	wantFiles(t, "Remove", d, `b="2"`)
	want(t, "Remove again", d.Remove("a"), api.ErrNone)
	want(t, "Sync", d.Sync("a"), api.ErrNone)
	want(t, "Append", d.Append("a", nil), api.ErrNone)
	want(t, "Rename", d.Rename("a", "b"), api.ErrNone)
	wantFiles(t, "Remove again", d, `b="2"`)
}

// P11.1: SyncDir takes any text; of no folder nothing happens.
func TestSyncDirOfNoFolder(t *testing.T) {
	d := newDisk(t, 100)
	put(t, d, "a", "1")
	put(t, d, "d/a", "2")
	put(t, d, "d/e/a", "3")
	for i, folder := range []string{"x", "d/", "/d", "d/a", "d/e/", "..", ".git", "\x00", strings.Repeat("a", 300), "a//b", "/"} {
		want(t, "SyncDir "+folder, d.SyncDir(folder), api.OK)
		if d.Count() != 6+i+1 {
			t.Errorf("SyncDir %q: count %d", folder, d.Count())
		}
	}
	wantCrash(t, d, "")
	want(t, "SyncDir", d.SyncDir(""), api.OK)
	wantCrash(t, d, `a=""`)
	want(t, "SyncDir", d.SyncDir("d/e"), api.OK)
	wantCrash(t, d, `a="" d/e/a=""`)
	want(t, "SyncDir", d.SyncDir("d"), api.OK)
	wantCrash(t, d, `a="" d/a="" d/e/a=""`)
}

// Chapter 11, Errors: ErrArg: a path is none.
func TestWrongPaths(t *testing.T) {
	wrong := []string{"", "/", "a/", "/a", "a//b", ".", "..", "a/../b", "a/./b", ".git", "a/.git/b", "a\x00b", strings.Repeat("a/", 100) + "a"}
	for _, path := range wrong {
		d := newDisk(t, 100)
		put(t, d, "a", "1")
		calls, what := counted(d, path, path, []byte("x"))
		for i, call := range calls[:5] {
			want(t, what[i]+" of "+path, call(), api.ErrArg)
		}
		want(t, "Rename from", d.Rename(path, "a"), api.ErrArg)
		want(t, "Rename to", d.Rename("a", path), api.ErrArg)
		p, errno := d.Read(path)
		want(t, "Read", errno, api.ErrArg)
		if len(p) != 0 {
			t.Errorf("Read of %q: bytes beside an error", path)
		}
		if d.Count() != 2+7 {
			t.Errorf("%q: count %d", path, d.Count())
		}
		wantFiles(t, "wrong paths", d, `a="1"`)
		// One change is pending, and one byte isn't synced: no more.
		wantCrash(t, d, `a="1"`, 1, 1, 0)
	}
	d := newDisk(t, 100)
	longest := strings.Repeat("a/", 99) + "aa"
	put(t, d, longest, "1")
	wantFiles(t, "the longest path", d, longest+`="1"`)
}

// Chapter 11, Errors: ErrArg: the folders of the two paths are unlike.
func TestUnlikeFolders(t *testing.T) {
	d := newDisk(t, 100)
	for _, path := range []string{"a", "d/a", "d/e/a"} {
		put(t, d, path, path)
	}
	before := told(t, d)
	for _, two := range [][2]string{{"a", "d/a"}, {"d/a", "a"}, {"d/a", "e/a"}, {"d/a", "d/e/b"}, {"d/e/a", "d/a"}, {"x/y", "z"}, {"a", "d/b"}} {
		want(t, "Rename "+two[0]+" "+two[1], d.Rename(two[0], two[1]), api.ErrArg)
	}
	wantFiles(t, "unlike folders", d, before)
}

// Chapter 11, Errors: ErrLong: a file would have more than 2 MaxData bytes.
func TestLongFiles(t *testing.T) {
	const most = 2 * api.MaxData
	d := newDisk(t, 4*most)
	put(t, d, "a", "")
	put(t, d, "b", "x")
	want(t, "one byte too many at once", d.Append("a", make([]byte, most+1)), api.ErrLong)
	want(t, "all but one", d.Append("a", make([]byte, most-1)), api.OK)
	want(t, "two more", d.Append("a", make([]byte, 2)), api.ErrLong)
	want(t, "one more", d.Append("a", make([]byte, 1)), api.OK)
	want(t, "none more", d.Append("a", nil), api.OK)
	want(t, "one too many", d.Append("a", make([]byte, 1)), api.ErrLong)
	p, errno := d.Read("a")
	if len(p) != most || errno != api.OK {
		t.Errorf("%d bytes, error %d", len(p), errno)
	}
	want(t, "another file", d.Append("b", make([]byte, most-1)), api.OK)
	want(t, "another file, one too many", d.Append("b", make([]byte, 1)), api.ErrLong)
	// The file's length is asked ahead of the quota.
	small := newDisk(t, 1)
	put(t, small, "a", "")
	want(t, "too long and too full", small.Append("a", make([]byte, most+1)), api.ErrLong)
	want(t, "too full", small.Append("a", make([]byte, most)), api.ErrFull)
}

// Chapter 11, Errors: ErrFull: the bytes of all files that have names would be more than the quota.
func TestQuota(t *testing.T) {
	d := newDisk(t, 10)
	put(t, d, "a", "1234")
	put(t, d, "d/b", "12345")
	want(t, "two more", d.Append("a", []byte("xy")), api.ErrFull)
	want(t, "one more", d.Append("a", []byte("x")), api.OK)
	want(t, "beyond", d.Append("d/b", []byte("x")), api.ErrFull)
	want(t, "none more", d.Append("d/b", nil), api.OK)
	want(t, "Create needs no room", d.Create("c"), api.OK)
	wantFiles(t, "a full disk", d, `a="1234x" c="" d/b="12345"`)
	// A file without a name does not count, whether or not that lasts.
	want(t, "Remove", d.Remove("a"), api.OK)
	want(t, "six bytes", d.Append("c", []byte("123456")), api.ErrFull)
	want(t, "five bytes", d.Append("c", []byte("12345")), api.OK)
	want(t, "Create", d.Create("d/c"), api.OK)
	want(t, "Rename onto a file", d.Rename("d/c", "d/b"), api.OK)
	want(t, "six bytes", d.Append("d/b", []byte("123456")), api.ErrFull)
	want(t, "five bytes", d.Append("d/b", []byte("abcde")), api.OK)
	want(t, "a move needs none", d.Rename("d/b", "d/x"), api.OK)
	want(t, "beyond", d.Append("d/x", []byte("x")), api.ErrFull)
	wantFiles(t, "files", d, `c="12345" d/x="abcde"`)
}

// P11.3, Errors: behind a crash the quota is asked of the files that are there then, which may be more than it already;
// then even no bytes are too many.
func TestQuotaBehindCrash(t *testing.T) {
	d := newDisk(t, 10)
	putLasting(t, d, "a/x", "12345678")
	want(t, "Remove", d.Remove("a/x"), api.OK)
	putLasting(t, d, "b/y", "abcdefgh")
	both := crash(t, d, 0)
	wantFiles(t, "both", both, `a/x="12345678" b/y="abcdefgh"`)
	want(t, "no bytes", both.Append("a/x", nil), api.ErrFull)
	want(t, "Remove", both.Remove("b/y"), api.OK)
	want(t, "two bytes", both.Append("a/x", []byte("90")), api.OK)
	want(t, "one byte", both.Append("a/x", []byte("1")), api.ErrFull)
	one := crash(t, d, 1)
	wantFiles(t, "one", one, `b/y="abcdefgh"`)
	want(t, "three bytes", one.Append("b/y", []byte("123")), api.ErrFull)
	want(t, "two bytes", one.Append("b/y", []byte("12")), api.OK)
	// Bytes that are gone leave room.
	torn := newDisk(t, 10)
	put(t, torn, "a", "1234567890")
	left := crash(t, torn, 1, 4, 0)
	want(t, "seven bytes", left.Append("a", []byte("1234567")), api.ErrFull)
	want(t, "six bytes", left.Append("a", []byte("123456")), api.OK)
	wantFiles(t, "torn", left, `a="1234123456"`)
}

// Chapter 11, example 2.
func TestExampleErrors(t *testing.T) {
	d := newDisk(t, 100)
	put(t, d, "a/b", "xyz")
	want(t, "Create again", d.Create("a/b"), api.ErrExists)
	want(t, "Append without a file", d.Append("c", []byte("x")), api.ErrNone)
	want(t, "Create of no path", d.Create("a//b"), api.ErrArg)
	want(t, "Rename to another folder", d.Rename("a/b", "c/b"), api.ErrArg)
	small := newDisk(t, 2)
	want(t, "Create", small.Create("a"), api.OK)
	want(t, "three bytes", small.Append("a", []byte("xyz")), api.ErrFull)
	wantFiles(t, "three bytes", small, `a=""`)
	want(t, "two bytes", small.Append("a", []byte("xy")), api.OK)
}

// Rules, Nil objects: a method of a nil Disk answers ErrNone, whatever else applies; Plan, Off and Count do nothing.
func TestNilDisk(t *testing.T) {
	var d *fs.Disk
	for _, path := range []string{"a", "", "a//b"} {
		calls, what := counted(d, path, "b/c", []byte("x"))
		for i, call := range calls {
			want(t, what[i]+" of a nil Disk", call(), api.ErrNone)
		}
		p, errno := d.Read(path)
		want(t, "Read of a nil Disk", errno, api.ErrNone)
		if len(p) != 0 {
			t.Errorf("Read of a nil Disk: bytes")
		}
	}
	list, errno := d.Files()
	want(t, "Files of a nil Disk", errno, api.ErrNone)
	if len(list) != 0 {
		t.Errorf("Files of a nil Disk: files")
	}
	d.Plan([]int{1}, 1)
	if d.Off() || d.Count() != 0 {
		t.Errorf("a nil Disk: off %v, count %d", d.Off(), d.Count())
	}
	for _, choices := range [][]uint8{nil, {1}} {
		after, errno := d.Crash(choices)
		want(t, "Crash of a nil Disk", errno, api.ErrNone)
		if after != nil {
			t.Errorf("Crash of a nil Disk: a disk")
		}
	}
}

// P1: a Disk that stands in a variable is one with the quota 0; no call panics.
func TestDiskInVariable(t *testing.T) {
	for i := range 6 {
		var d fs.Disk
		calls, _ := counted(&d, "a", "b", nil)
		calls[i]()
		crash(t, &d, 1)
	}
	var d fs.Disk
	wantFiles(t, "a Disk in a variable", &d, "")
	left := crash(t, &d)
	want(t, "Create behind Crash", left.Create("a"), api.OK)
	want(t, "Create", d.Create("a"), api.OK)
	want(t, "SyncDir", d.SyncDir(""), api.OK)
	want(t, "Append", d.Append("a", []byte("x")), api.ErrFull)
	want(t, "Append of none", d.Append("a", nil), api.OK)
	wantCrash(t, &d, `a=""`)
}

// Rules, Memory: what is handed in is neither changed nor kept, and answers share no memory.
func TestMemory(t *testing.T) {
	d := newDisk(t, 100)
	want(t, "Create", d.Create("a"), api.OK)
	first, second := roomy([]byte("abc")), roomy([]byte("de"))
	want(t, "Append", d.Append("a", first), api.OK)
	wantRoomy(t, "Append", first, []byte("abc"))
	scratch(first)
	want(t, "Append", d.Append("a", second), api.OK)
	wantRoomy(t, "Append", second, []byte("de"))
	scratch(second)
	wantFiles(t, "what was handed in changed", d, `a="abcde"`)
	p, _ := d.Read("a")
	scratch(p)
	list, _ := d.Files()
	scratch(list[0].Data)
	list[0].Path = "x"
	wantFiles(t, "answers changed", d, `a="abcde"`)
	q, _ := d.Read("a")
	want(t, "Append", d.Append("a", []byte("f")), api.OK)
	if string(q) != "abcde" {
		t.Errorf("an answer changed: %s", q)
	}
	choices := roomy([]byte{1, 4, 0})
	left := crash(t, d, choices...)
	wantRoomy(t, "Crash", choices, []byte{1, 4, 0})
	scratch(choices)
	wantFiles(t, "Crash", left, `a="abcd"`)
	refuse := []int{2, 3, 9, 9}
	d.Plan(refuse[:1], 0)
	if refuse[1] != 3 || refuse[2] != 9 {
		t.Errorf("Plan changed what was handed in")
	}
	refuse[0], refuse[1] = 1, 1
	want(t, "the first call", d.Sync("a"), api.OK)
	want(t, "the second call", d.Sync("a"), api.ErrDisk)
	want(t, "the third call", d.Sync("a"), api.OK)
}

// borrowed answers a text whose bytes are p's own.
func borrowed(p []byte) string { return unsafe.String(&p[0], len(p)) }

// Rules, Memory: of texts that are handed in no memory is kept, and those that are answered are new.
func TestMemoryOfTexts(t *testing.T) {
	d := newDisk(t, 100)
	a, b, from, to, c := []byte("d/a"), []byte("d/b"), []byte("d/b"), []byte("d/c"), []byte("d/c")
	want(t, "Create", d.Create(borrowed(a)), api.OK)
	want(t, "Create", d.Create(borrowed(b)), api.OK)
	want(t, "Rename", d.Rename(borrowed(from), borrowed(to)), api.OK)
	want(t, "Remove", d.Remove(borrowed(c)), api.OK)
	for _, p := range [][]byte{a, b, from, to, c} {
		scratch(p)
	}
	wantFiles(t, "texts changed", d, `d/a=""`)
	wantCrash(t, d, `d/a="" d/b=""`, 2)
	wantCrash(t, d, `d/a="" d/c=""`, 3)
	wantCrash(t, d, `d/a=""`, 4)
	list, _ := d.Files()
	scratch(unsafe.Slice(unsafe.StringData(list[0].Path), 3))
	wantFiles(t, "an answer changed", d, `d/a=""`)
	want(t, "SyncDir", d.SyncDir("d"), api.OK)
	wantCrash(t, d, `d/a=""`)
}

// Rules, Memory: a crash's disk and the one that it was made of know nothing of each other.
func TestCrashSharesNothing(t *testing.T) {
	d := newDisk(t, 100)
	putLasting(t, d, "a", "abc")
	put(t, d, "d/b", "xyz")
	left := crash(t, d, 1, 2, 0)
	wantFiles(t, "Crash", left, `a="abc" d/b="xy"`)
	want(t, "Append to the new", left.Append("a", []byte("1")), api.OK)
	want(t, "Append to the old", d.Append("a", []byte("2")), api.OK)
	want(t, "Remove of the new", left.Remove("d/b"), api.OK)
	want(t, "Create of the new", left.Create("n"), api.OK)
	want(t, "Create of the old", d.Create("o"), api.OK)
	want(t, "SyncDir of the new", left.SyncDir(""), api.OK)
	left.Plan([]int{1}, 2)
	wantFiles(t, "the old", d, `a="abc2" d/b="xyz" o=""`)
	wantFiles(t, "the new", left, `a="abc1" n=""`)
	wantCrash(t, d, `a="abc"`)
	want(t, "Sync of the new", left.Sync("a"), api.ErrDisk)
	want(t, "Sync of the new", left.Sync("a"), api.ErrOff)
	want(t, "Sync of the old", d.Sync("a"), api.OK)
	p, _ := d.Read("a")
	if !bytes.Equal(p, []byte("abc2")) {
		t.Errorf("the old: %s", p)
	}
}
