package txfile_test

import (
	"bytes"
	"slices"
	"strconv"
	"strings"
	"testing"
	"unsafe"

	"codicil/api"
	"codicil/txfile"
)

// Chapter 12, example 1.
func TestExampleCommits(t *testing.T) {
	d := newDisk(t, plenty)
	s := open(t, d)
	wantFiles(t, "a new disk", s, nil)
	want(t, "Commit", s.Commit(changes(has("a", "x"), has("b", "y"))), api.OK)
	wantFiles(t, "Commit", s, state{"a": "x", "b": "y"})
	want(t, "Commit", s.Commit(changes(gone("a"), has("c", "z"))), api.OK)
	wantFiles(t, "Commit", s, state{"b": "y", "c": "z"})
	want(t, "Commit of nothing gone", s.Commit(changes(gone("a"))), api.OK)
	wantFiles(t, "Commit of nothing gone", s, state{"b": "y", "c": "z"})
	wantDisk(t, "Commit", d, state{"b": "y", "c": "z"})
	wantFiles(t, "Open", open(t, d), state{"b": "y", "c": "z"})
	wantFiles(t, "Open behind a crash", open(t, crash(t, d)), state{"b": "y", "c": "z"})
}

// Chapter 12, example 2.
func TestExampleTwice(t *testing.T) {
	d, s := filled(t, plenty, state{"a": "0"})
	want(t, "one path twice", s.Commit(changes(has("a", "x"), has("a", "y"))), api.ErrArg)
	wantFiles(t, "one path twice", s, state{"a": "0"})
	wantDisk(t, "one path twice", d, state{"a": "0"})
	if d.Count() != 0 {
		t.Errorf("one path twice: the disk was called")
	}
}

// P12.1: of a new disk the store has no files, and nothing is written for it.
func TestOpenOfNewDisk(t *testing.T) {
	for _, quota := range []int{0, 1, plenty} {
		d := newDisk(t, quota)
		d.Plan([]int{1, 2, 3}, 4)
		s := open(t, d)
		wantFiles(t, "a new disk", s, nil)
		wantDisk(t, "a new disk", d, nil)
		p, errno := s.Read("a")
		if len(p) != 0 || errno != api.ErrNone {
			t.Errorf("Read: %q, error %d", p, errno)
		}
	}
}

// Chapter 12, Errors: Open of a nil disk, and of one whose power is off.
func TestOpenErrors(t *testing.T) {
	s, errno := txfile.Open(nil)
	want(t, "Open of a nil disk", errno, api.ErrNone)
	if s != nil {
		t.Errorf("Open of a nil disk: a store")
	}
	d, _ := filled(t, plenty, state{"a": "x"})
	d.Plan(nil, 1)
	d.Sync("a")
	s, errno = txfile.Open(d)
	want(t, "Open with the power off", errno, api.ErrOff)
	if s != nil {
		t.Errorf("Open with the power off: a store")
	}
}

// Rules, Nil objects; P1: a Store that Open did not answer has no disk.
func TestNilStore(t *testing.T) {
	var s *txfile.Store
	p, errno := s.Read("a")
	want(t, "Read", errno, api.ErrNone)
	list, errno := s.Files()
	want(t, "Files", errno, api.ErrNone)
	if len(p) != 0 || len(list) != 0 {
		t.Errorf("bytes or files of a nil Store")
	}
	for _, c := range [][]txfile.Change{nil, changes(has("a", "x")), changes(has("", "x")), changes(has("a", ""), has("a", ""))} {
		want(t, "Commit", s.Commit(c), api.ErrNone)
	}
	var bare txfile.Store
	_, errno = bare.Read("a")
	want(t, "Read", errno, api.ErrNone)
	want(t, "Commit", bare.Commit(changes(has("a", "x"))), api.ErrNone)
	wantFiles(t, "a Store in a variable", &bare, nil)
}

// P12.1: Read of a path that has no file, or is none.
func TestReadOfNone(t *testing.T) {
	_, s := filled(t, plenty, state{"a": "", "d/a": "x"})
	for _, path := range []string{"b", "d", "d/", "", "a/", "/a", "data/a", "A", strings.Repeat("a", 1000)} {
		p, errno := s.Read(path)
		if len(p) != 0 || errno != api.ErrNone {
			t.Errorf("Read(%q): %q, error %d", path, p, errno)
		}
	}
	p, errno := s.Read("a")
	if len(p) != 0 || errno != api.OK {
		t.Errorf("Read of an empty file: %q, error %d", p, errno)
	}
}

// P12.2: a commit's changes of many kinds, in whatever order they stand.
func TestCommit(t *testing.T) {
	before, list := some()
	for range len(list) {
		d, s := filled(t, plenty, before)
		want(t, "Commit", s.Commit(list), api.OK)
		wantFiles(t, "Commit", s, before.with(list))
		wantDisk(t, "Commit", d, before.with(list))
		for _, choices := range ways() {
			wantFiles(t, "behind a crash", open(t, crash(t, d, choices...)), before.with(list))
		}
		list = append(list[1:], list[0])
	}
}

// P12.2: a commit without changes makes none; it calls the disk for nothing.
func TestCommitWithoutChanges(t *testing.T) {
	d, s := filled(t, plenty, state{"a": "x"})
	d.Plan([]int{1, 2, 3}, 4)
	for _, list := range [][]txfile.Change{nil, {}} {
		want(t, "no changes", s.Commit(list), api.OK)
	}
	wantFiles(t, "no changes", s, state{"a": "x"})
	if d.Count() != 0 {
		t.Errorf("no changes: %d calls", d.Count())
	}
	want(t, "Sync", d.Sync("data/a"), api.ErrDisk)
	d.Plan(nil, 1)
	want(t, "Sync", d.Sync("data/a"), api.ErrOff)
	want(t, "no changes with the power off", s.Commit(nil), api.ErrOff)
}

// P12.2: Gone of a path that there isn't, alone and beside others; Data beside Gone is of no account.
func TestCommitOfNothingGone(t *testing.T) {
	d, s := filled(t, plenty, state{"a": "x"})
	want(t, "Gone of none", s.Commit(changes(gone("b"), gone("d/b"))), api.OK)
	wantFiles(t, "Gone of none", s, state{"a": "x"})
	list := changes(txfile.Change{Path: "c", Data: []byte("data"), Gone: true}, txfile.Change{Path: "a", Data: []byte("data"), Gone: true}, has("d", "y"))
	want(t, "Gone with Data", s.Commit(list), api.OK)
	wantFiles(t, "Gone with Data", s, state{"d": "y"})
	wantDisk(t, "Gone with Data", d, state{"d": "y"})
	wantFiles(t, "Gone with Data", open(t, crash(t, d)), state{"d": "y"})
}

// longPath answers a path of so many bytes.
func longPath(size int) string {
	return strings.Repeat("p/", (size-1)/2) + strings.Repeat("q", 1+(size-1)%2)
}

// Chapter 12, Errors: ErrArg: paths that are none, that are too long, or that stand twice.
func TestCommitErrArg(t *testing.T) {
	d, s := filled(t, plenty, state{"a": "x"})
	for _, path := range []string{"", "/", "a/", "/a", "a//b", ".", "..", "d/../a", ".git", "a\x00", longPath(181), longPath(200), longPath(201), strings.Repeat("a", 5000)} {
		for _, c := range changes(has(path, "y"), gone(path)) {
			want(t, "a wrong path", s.Commit(changes(c)), api.ErrArg)
			want(t, "a wrong path behind", s.Commit(changes(has("b", "y"), c)), api.ErrArg)
			want(t, "a wrong path ahead", s.Commit(changes(c, has("b", "y"))), api.ErrArg)
		}
	}
	for _, two := range [][]txfile.Change{
		changes(has("b", "x"), has("b", "x")), changes(gone("b"), gone("b")), changes(has("b", "x"), gone("b")),
		changes(gone("a"), has("a", "y")), changes(has("b", ""), has("c", ""), has("d", ""), has("b", "")),
	} {
		want(t, "two changes of one path", s.Commit(two), api.ErrArg)
	}
	wantFiles(t, "ErrArg", s, state{"a": "x"})
	if d.Count() != 0 {
		t.Errorf("ErrArg: %d calls of the disk", d.Count())
	}
}

// Chapter 12, Errors: a path may have 180 bytes.
func TestLongestPath(t *testing.T) {
	d, s := filled(t, plenty, state{"a": "x"})
	longest := longPath(180)
	if len(longest) != 180 {
		t.Fatalf("%d bytes", len(longest))
	}
	want(t, "the longest path", s.Commit(changes(has(longest, "y"))), api.OK)
	wantDisk(t, "the longest path", d, state{"a": "x", longest: "y"})
	wantFiles(t, "the longest path", open(t, crash(t, d)), state{"a": "x", longest: "y"})
	want(t, "the longest path", s.Commit(changes(gone(longest))), api.OK)
	wantDisk(t, "the longest path", d, state{"a": "x"})
	want(t, "one byte more", s.Commit(changes(has(longPath(181), "y"))), api.ErrArg)
}

// Chapter 12, Errors: ErrLong: the Data of the changes that aren't Gone have more than MaxData bytes together.
func TestCommitOfManyBytes(t *testing.T) {
	d, s := filled(t, 8*api.MaxData, state{"a": "x"})
	one := func(size int) txfile.Change { return txfile.Change{Path: "one", Data: bytes.Repeat([]byte("1"), size)} }
	two := txfile.Change{Path: "two", Data: bytes.Repeat([]byte("2"), api.MaxData/2)}
	free := txfile.Change{Path: "free", Data: make([]byte, api.MaxData), Gone: true}
	want(t, "one byte too many", s.Commit(changes(one(api.MaxData+1))), api.ErrLong)
	want(t, "one byte too many together", s.Commit(changes(one(api.MaxData/2+1), two)), api.ErrLong)
	want(t, "one byte too many beside Gone", s.Commit(changes(free, one(api.MaxData/2+1), two)), api.ErrLong)
	wantFiles(t, "ErrLong", s, state{"a": "x"})
	if d.Count() != 0 {
		t.Errorf("ErrLong: %d calls of the disk", d.Count())
	}
	want(t, "MaxData", s.Commit(changes(one(api.MaxData))), api.OK)
	want(t, "MaxData together", s.Commit(changes(one(api.MaxData/2), free, two)), api.OK)
	wanted := state{"a": "x", "one": strings.Repeat("1", api.MaxData/2), "two": strings.Repeat("2", api.MaxData/2)}
	wantDisk(t, "MaxData", d, wanted)
	wantFiles(t, "MaxData", open(t, crash(t, d)), wanted)
}

// Chapter 12, Errors: ErrLong: more than MaxEntries changes; ErrArg comes ahead of it.
func TestCommitOfManyChanges(t *testing.T) {
	d, s := filled(t, 8*api.MaxData, state{"a": "x"})
	var list []txfile.Change
	wanted := state{"a": "x"}
	for i := range api.MaxEntries + 1 {
		c := has(longPath(170)+"/f"+strconv.Itoa(i), strconv.Itoa(i))
		list = append(list, c)
		if i < api.MaxEntries {
			wanted[c.Path] = string(c.Data)
		}
	}
	want(t, "one change too many", s.Commit(list), api.ErrLong)
	var away []txfile.Change
	for _, c := range list {
		away = append(away, gone(c.Path))
	}
	want(t, "one change too many, all Gone", s.Commit(away), api.ErrLong)
	twice := slices.Clone(list)
	twice[api.MaxEntries].Path = twice[0].Path
	want(t, "one path twice, one change too many", s.Commit(twice), api.ErrArg)
	twice[api.MaxEntries].Path = ""
	want(t, "no path, one change too many", s.Commit(twice), api.ErrArg)
	want(t, "no path, too many bytes", s.Commit(changes(txfile.Change{Path: "b", Data: make([]byte, api.MaxData+1)}, has("", ""))), api.ErrArg)
	if d.Count() != 0 {
		t.Errorf("%d calls of the disk", d.Count())
	}
	want(t, "MaxEntries", s.Commit(list[:api.MaxEntries]), api.OK)
	wantDisk(t, "MaxEntries", d, wanted)
	wantFiles(t, "MaxEntries", open(t, crash(t, d)), wanted)
	want(t, "MaxEntries, all Gone", s.Commit(away[1:]), api.OK)
	wantFiles(t, "MaxEntries, all Gone", s, state{"a": "x", list[0].Path: "0"})
}

// Chapter 12, Errors: with the power off ahead of it a commit has ErrOff, if it is in form, and Read and Files answer.
func TestPowerOffAhead(t *testing.T) {
	d, s := filled(t, plenty, state{"a": "x"})
	d.Plan(nil, 1)
	want(t, "Sync", d.Sync("data/a"), api.ErrOff)
	want(t, "Commit", s.Commit(changes(has("a", "y"))), api.ErrOff)
	want(t, "Commit of no path", s.Commit(changes(has("", "y"))), api.ErrArg)
	want(t, "Commit of many bytes", s.Commit(changes(txfile.Change{Path: "a", Data: make([]byte, api.MaxData+1)})), api.ErrLong)
	wantFiles(t, "with the power off", s, state{"a": "x"})
	_, errno := s.Read("b")
	want(t, "Read", errno, api.ErrNone)
	wantFiles(t, "behind the crash", open(t, crash(t, d)), state{"a": "x"})
}

// Chapter 12, Words: of the disk's other files a store takes no notice.
func TestOtherFiles(t *testing.T) {
	d := newDisk(t, plenty)
	others := []string{"a", "data", "tx", "database/a", "txt/journal", "x/data/a", "x/tx/journal", "journal", "new"}
	for _, path := range others {
		want(t, "Create", d.Create(path), api.OK)
		want(t, "Append", d.Append(path, []byte("other")), api.OK)
	}
	s := open(t, d)
	wantFiles(t, "others' files", s, nil)
	want(t, "Commit", s.Commit(changes(has("a", "x"), has("d/a", "y"))), api.OK)
	want(t, "Commit", s.Commit(changes(gone("a"))), api.OK)
	wantFiles(t, "Commit", open(t, d), state{"d/a": "y"})
	for _, path := range others {
		p, errno := d.Read(path)
		if string(p) != "other" || errno != api.OK {
			t.Errorf("%s: %q, error %d", path, p, errno)
		}
	}
	p, errno := d.Read("data/d/a")
	if string(p) != "y" || errno != api.OK {
		t.Errorf("data/d/a: %q, error %d", p, errno)
	}
}

// Rules, Memory: what is handed in is neither changed nor kept, and answers share no memory.
func TestMemory(t *testing.T) {
	d, s := filled(t, plenty, nil)
	data := slices.Repeat([]byte("0123456789"), 10)
	list := changes(txfile.Change{Path: "a", Data: data[:4]}, txfile.Change{Path: "b", Data: data[4:6]}, gone("c"), has("spare", "spare"))
	want(t, "Commit", s.Commit(list[:3]), api.OK)
	if string(data) != strings.Repeat("0123456789", 10) || list[0].Path != "a" || list[1].Path != "b" || list[2].Path != "c" ||
		list[3].Path != "spare" || len(list[0].Data) != 4 || len(list[1].Data) != 2 || list[2].Data != nil {
		t.Errorf("Commit changed what was handed in")
	}
	scratch(data)
	clear(list)
	wanted := state{"a": "0123", "b": "45"}
	wantFiles(t, "what was handed in changed", s, wanted)
	p, _ := s.Read("a")
	scratch(p)
	all, _ := s.Files()
	for i := range all {
		scratch(all[i].Data)
		all[i].Path = "x"
	}
	wantFiles(t, "answers changed", s, wanted)
	wantDisk(t, "answers changed", d, wanted)
	again := open(t, d)
	p, _ = again.Read("a")
	scratch(p)
	wantFiles(t, "answers of another store changed", again, wanted)
	wantDisk(t, "answers of another store changed", d, wanted)
	want(t, "Append by others", d.Append("data/a", []byte("zzz")), api.OK)
	wantFiles(t, "the disk changed", again, wanted)
}

// Rules, Memory: of texts that are handed in no memory is kept, and those that are answered are new.
func TestMemoryOfTexts(t *testing.T) {
	d, s := filled(t, plenty, nil)
	path := []byte("d/a")
	want(t, "Commit", s.Commit(changes(has(unsafe.String(&path[0], len(path)), "x"))), api.OK)
	scratch(path)
	wantFiles(t, "a text changed", s, state{"d/a": "x"})
	wantDisk(t, "a text changed", d, state{"d/a": "x"})
	list, _ := s.Files()
	scratch(unsafe.Slice(unsafe.StringData(list[0].Path), 3))
	wantFiles(t, "an answer changed", s, state{"d/a": "x"})
}

// P12.1: a store answers what it knows, and one that is opened later what the other one committed.
func TestTwoStores(t *testing.T) {
	d, s := filled(t, plenty, state{"a": "x"})
	other := open(t, d)
	want(t, "Commit", s.Commit(changes(has("b", "y"))), api.OK)
	wantFiles(t, "the store that was opened before", other, state{"a": "x"})
	wantFiles(t, "a store that is opened behind", open(t, d), state{"a": "x", "b": "y"})
}
