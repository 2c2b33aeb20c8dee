package object_test

import (
	"math"
	"math/rand"
	"regexp"
	"slices"
	"strings"
	"testing"

	"codicil/api"
	"codicil/object"
)

// treeFormat is how trees are put and parsed.
func treeFormat() format[[]api.Entry] {
	return format[[]api.Entry]{"Tree", object.PutTree, object.ParseTree}
}

// entry, file and dir answer an entry; files answers many.
func entry(mode int, name string, id api.Id) api.Entry {
	return api.Entry{Mode: mode, Name: name, Id: id}
}

func file(name string) api.Entry {
	return api.Entry{Mode: api.ModeFile, Name: name, Id: idOf(len(name))}
}
func dir(name string) api.Entry { return api.Entry{Mode: api.ModeTree, Name: name, Id: idOf(7)} }

func files(names ...string) []api.Entry {
	var l []api.Entry
	for _, name := range names {
		l = append(l, file(name))
	}
	return l
}

// numbered answers a name of five digits.
func numbered(i int) string { return decimal(100000 + i)[1:] }

// manyFiles answers n files whose names rise.
func manyFiles(n int) []api.Entry {
	var l []api.Entry
	for i := range n {
		l = append(l, api.Entry{Mode: api.ModeFile, Name: numbered(i), Id: idOf(i)})
	}
	return l
}

// treeText answers how entries are written, in form or not, of the modes that api has.
func treeText(l []api.Entry) string {
	var s strings.Builder
	for _, e := range l {
		s.WriteString(modeWord(e.Mode) + " " + e.Name + "\x00" + string(e.Id[:]))
	}
	return s.String()
}

// modeWord answers a mode's digits.
func modeWord(mode int) string {
	switch mode {
	case api.ModeTree:
		return "40000"
	case api.ModeFile:
		return "100644"
	case api.ModeExec:
		return "100755"
	case api.ModeLink:
		return "120000"
	}
	return "100664"
}

// entryForm is what stands ahead of an entry's id.
var entryForm = regexp.MustCompile(`^(40000|100644|100755|120000) ([^\x00/]+)\x00`)

// plainTree answers by the chapter's words which entries a text has, and whether it is a tree's.
func plainTree(text string) ([]api.Entry, bool) {
	modes := map[string]int{"40000": 0o40000, "100644": 0o100644, "100755": 0o100755, "120000": 0o120000}
	var l []api.Entry
	for text != "" {
		m := entryForm.FindStringSubmatch(text)
		if m == nil || len(text) < len(m[0])+32 {
			return nil, false
		}
		e := api.Entry{Mode: modes[m[1]], Name: m[2], Id: api.Id([]byte(text[len(m[0]) : len(m[0])+32]))}
		l = append(l, e)
		text = text[len(m[0])+32:]
	}
	return l, plainTreeError(l) == api.OK
}

// plainTreeError answers the error that entries have by the chapter's words.
func plainTreeError(l []api.Entry) api.Errno {
	key := func(e api.Entry) string {
		if e.Mode == 0o40000 {
			return e.Name + "/"
		}
		return e.Name
	}
	found := map[api.Errno]bool{api.ErrLong: len(l) > 4096}
	for i, e := range l {
		if e.Name == "" || len(e.Name) > 100 || strings.ContainsAny(e.Name, "/\x00") || e.Name == "." || e.Name == ".." || len(e.Name) == 4 && strings.ToLower(e.Name) == ".git" {
			found[api.ErrName] = true
		}
		if !slices.Contains([]int{0o40000, 0o100644, 0o100755, 0o120000}, e.Mode) || i > 0 && key(l[i-1]) >= key(e) {
			found[api.ErrForm] = true
		}
		for _, other := range l[:i] {
			if other.Name == e.Name {
				found[api.ErrExists] = true
			}
		}
	}
	for _, e := range []api.Errno{api.ErrLong, api.ErrName, api.ErrForm, api.ErrExists} {
		if found[e] {
			return e
		}
	}
	return api.OK
}

// P7.2: the chapter's examples.
func TestTreeExamples(t *testing.T) {
	f := treeFormat()
	f.wantText(t, nil, "")
	f.wantText(t, []api.Entry{}, "")
	f.wantNoPut(t, "b, a", files("b", "a"), api.ErrForm)
	f.wantNoPut(t, "the file a and the tree a", []api.Entry{file("a"), dir("a")}, api.ErrExists)
	f.wantNoPut(t, "the tree a and the file a.b", []api.Entry{dir("a"), file("a.b")}, api.ErrForm)
	f.wantText(t, []api.Entry{file("a.b"), dir("a")}, treeText([]api.Entry{file("a.b"), dir("a")}))
	id := string(idBytes(idOf(1)))
	f.wantText(t, files("a"), "100644 a\x00"+id)
	f.wantNoForm(t, "040000 a\x00"+id)
	f.wantText(t, []api.Entry{entry(api.ModeTree, "a", idOf(1))}, "40000 a\x00"+id)
	f.wantText(t, []api.Entry{entry(api.ModeExec, "a", idOf(1)), entry(api.ModeLink, "b c", idOf(1))}, "100755 a\x00"+id+"120000 b c\x00"+id)
}

// idBytes answers the bytes of an id.
func idBytes(id api.Id) []byte { return id[:] }

// P7.2: ids of whatever bytes, those too that look like the ends of fields.
func TestEntryIds(t *testing.T) {
	for b := range 256 {
		var id api.Id
		for i := range id {
			id[i] = byte(b)
		}
		l := []api.Entry{entry(api.ModeFile, "a", id), entry(api.ModeTree, "b", id)}
		treeFormat().wantText(t, l, treeText(l))
	}
}

// P7.2: entries whose names are beginnings of each other, files and trees.
func TestTreeOrder(t *testing.T) {
	f := treeFormat()
	for _, l := range [][]api.Entry{
		files("a", "aa", "aaa"), files("A", "a"), files("a", "a ", "a b", "a-", "a.", "a0", "b"), files("\x01", "a", "\x7f", "\x80", "\xff", "\xff\xff"),
		{dir("a"), dir("aa"), dir("aaa")}, {file("a"), file("a."), dir("a.b"), file("a0")}, {file("a"), file("a-"), dir("a0")}, {file("a."), dir("a"), file("a0")}, {dir("a."), dir("a"), dir("a0")}, {file("a-b"), file("a."), dir("a"), file("a0"), dir("aa")},
	} {
		f.wantText(t, l, treeText(l))
		for i := range l {
			for j := range i {
				turned := slices.Clone(l)
				turned[i], turned[j] = turned[j], turned[i]
				f.wantNoPut(t, "two entries the other way round", turned, api.ErrForm)
				f.wantNoForm(t, treeText(turned))
			}
			twice := slices.Insert(slices.Clone(l), i, l[i])
			f.wantNoPut(t, "an entry twice", twice, api.ErrForm)
			f.wantNoForm(t, treeText(twice))
		}
	}
	f.wantNoPut(t, "a tree ahead of a file below its end", []api.Entry{dir("a"), file("a-")}, api.ErrForm)
	f.wantNoPut(t, "a file behind a tree of its beginning", []api.Entry{file("a0"), dir("a")}, api.ErrForm)
	f.wantNoPut(t, "a file and an exec of one name", []api.Entry{file("a"), {Mode: api.ModeExec, Name: "a"}}, api.ErrForm)
	f.wantNoPut(t, "a tree twice", []api.Entry{dir("a"), dir("a")}, api.ErrForm)
}

// P7.2: a file and a tree of one name, wherever they stand.
func TestSameName(t *testing.T) {
	f := treeFormat()
	for _, mode := range []int{api.ModeFile, api.ModeExec, api.ModeLink} {
		a := api.Entry{Mode: mode, Name: "a"}
		for _, l := range [][]api.Entry{
			{a, dir("a")}, {a, file("a."), dir("a")}, {a, file("a "), file("a-"), dir("a."), dir("a"), file("a0")}, {file("A"), a, dir("a.b"), dir("a"), dir("b")}, {dir("9"), a, dir("a")},
		} {
			f.wantNoPut(t, "a file and a tree of one name", l, api.ErrExists)
			f.wantNoForm(t, treeText(l))
		}
		f.wantNoPut(t, "the tree ahead of its file", []api.Entry{dir("a"), a}, api.ErrForm)
	}
	l := append([]api.Entry{{Mode: api.ModeFile, Name: "0"}}, dir("0"))
	for i := range 4000 {
		l = slices.Insert(l, len(l)-1, file("0."+numbered(i)))
	}
	f.wantNoPut(t, "a file and a tree of one name with many between", l, api.ErrExists)
	f.wantNoForm(t, treeText(l))
	f.wantText(t, l[1:], treeText(l[1:]))
	f.wantText(t, l[:len(l)-1], treeText(l[:len(l)-1]))
}

// P7.2: modes that are none, among entries that may be.
func TestTreeModes(t *testing.T) {
	f := treeFormat()
	for _, mode := range []int{0, 1, -1, 40000, 100644, 0o100664, 0o100600, 0o100777, 0o160000, 0o140000, 0o20000, 0o40000 + 1, 0o40755, 0o120777, -0o40000, -0o100644, math.MinInt, math.MaxInt, 1<<32 + 0o100644} {
		for at := range 3 {
			l := files("a", "b", "c")
			l[at].Mode = mode
			f.wantNoPut(t, "a mode that is none", l, api.ErrForm)
		}
	}
	id := string(idBytes(idOf(1)))
	for _, mode := range []string{"", "0", "040000", "0100644", "0120000", "00100755", "100664", "100645", "160000", "140000", "40001", "4000", "400000", " 100644", "+100644", "-100644", "+40000", "-40000", "0o100644", "0x81a4", "33188", "16384", "100_644", "1006440", "10064", "100648", "100644a", "a", "\n100644", "100644\n", "100644\x00", "\x00", "2000000000000000100644", "4000000000000000040000", "777777777777777777777", "1000000000000000000000", strings.Repeat("0", 5000) + "100644", strings.Repeat("1", 5000)} {
		f.wantNoForm(t, mode+" a\x00"+id, mode+"a\x00"+id, treeText(files("0"))+mode+" a\x00"+id+treeText(files("b")))
	}
}

// P7.2: names that are none, and those at their edges.
func TestTreeNames(t *testing.T) {
	f := treeFormat()
	for _, name := range []string{"", ".", "..", ".git", ".GIT", ".gIt", "/", "a/b", "a/", "/a", "\x00", "a\x00", "\x00a", letters(101), letters(5000), strings.Repeat("é", 51)} {
		for _, mode := range []int{api.ModeFile, api.ModeExec, api.ModeLink, api.ModeTree} {
			l := []api.Entry{{Mode: mode, Name: name}}
			f.wantNoPut(t, "a name that is none", l, api.ErrName)
			f.wantNoForm(t, treeText(l))
			f.wantNoPut(t, "a name that is none, last", append(files(" "), l...), api.ErrName)
			f.wantNoPut(t, "a name that is none, first", append(l, file("z")), api.ErrName)
		}
	}
	for _, name := range []string{" ", "a b", " a", "a ", "  ", "...", ".gitt", ".gi", "git", "40000 a", "100644", "\n", "a\nb", "\x01", "\xff", "é", letters(100), strings.Repeat("\xff", 100), strings.Repeat(" ", 100)} {
		for _, mode := range []int{api.ModeFile, api.ModeExec, api.ModeLink, api.ModeTree} {
			l := []api.Entry{{Mode: mode, Name: name, Id: idOf(5)}}
			f.wantText(t, l, treeText(l))
		}
	}
}

// P7.2: as many entries as may be, and one more; their bytes at most and beyond.
func TestTreeLong(t *testing.T) {
	f := treeFormat()
	l := manyFiles(api.MaxEntries + 1)
	f.wantText(t, l[:api.MaxEntries], treeText(l[:api.MaxEntries]))
	f.wantNoPut(t, "one entry more than MaxEntries", l, api.ErrLong)
	f.wantNoForm(t, treeText(l))
	great := manyFiles(api.MaxEntries)
	for i := range great {
		great[i].Name += letters(95)
		great[i].Mode = api.ModeLink
	}
	f.wantText(t, great, treeText(great))
	f.wantNoForm(t, treeText(manyFiles(20000)))
	f.wantLong(t, treeText(l[:api.MaxEntries]), api.ErrForm)
	f.wantLong(t, "", api.ErrForm)
	f.wantLong(t, "100644 ", api.ErrForm)
}

// P7.2: bytes beyond MaxData are too many, whatever else is wrong; up to there names that are too long are no names.
func TestTreeSize(t *testing.T) {
	f := treeFormat()
	const beside = len("100644 ") + 1 + 32
	f.wantNoPut(t, "a name that just fits", files(letters(api.MaxData-beside)), api.ErrName)
	f.wantNoPut(t, "a name that is one too long", files(letters(api.MaxData-beside+1)), api.ErrLong)
	f.wantNoPut(t, "a tree's name that just fits", []api.Entry{dir(letters(api.MaxData - beside + 1))}, api.ErrName)
	f.wantNoPut(t, "a tree's name that is one too long", []api.Entry{dir(letters(api.MaxData - beside + 2))}, api.ErrLong)
	l := files(letters(api.MaxData/2-beside), letters(api.MaxData/2-beside))
	f.wantNoPut(t, "two names that just fit", l, api.ErrName)
	l[1].Name += "b"
	f.wantNoPut(t, "two names that are one too long", l, api.ErrLong)
	l[0].Mode = 1
	f.wantNoPut(t, "two names and a mode of few digits", l, api.ErrName)
}

// P7.2: two errors at one time.
func TestTreeTwoErrors(t *testing.T) {
	f := treeFormat()
	long := manyFiles(api.MaxEntries + 1)
	for _, e := range []api.Entry{entry(api.ModeFile, "", idOf(1)), entry(7, "zz", idOf(1)), file("0"), entry(api.ModeTree, numbered(9), idOf(1))} {
		l := slices.Clone(long)
		l[10] = e
		f.wantNoPut(t, "too many entries and one wrong", l, api.ErrLong)
	}
	f.wantNoPut(t, "a name and a mode", []api.Entry{entry(7, "..", idOf(1))}, api.ErrName)
	f.wantNoPut(t, "a mode, then a name", []api.Entry{entry(7, "a", idOf(1)), file(".git")}, api.ErrName)
	f.wantNoPut(t, "an order and a name", files("b", "a", ""), api.ErrName)
	f.wantNoPut(t, "a name and one of a file and a tree", []api.Entry{file("a"), dir("a"), file("b/")}, api.ErrName)
	f.wantNoPut(t, "an order and one of a file and a tree", []api.Entry{file("a"), dir("a"), file("0")}, api.ErrForm)
	f.wantNoPut(t, "a mode and one of a file and a tree", []api.Entry{file("a"), dir("a"), entry(7, "b", idOf(1))}, api.ErrForm)
	f.wantNoPut(t, "a name twice that is none", []api.Entry{file(".."), dir("..")}, api.ErrName)
}

// P7.2, P7.4: a tree's bytes cut, turned, and with bytes behind.
func TestTreeTurned(t *testing.T) {
	for _, l := range [][]api.Entry{files("a"), {file("a"), file("a.b"), entry(api.ModeTree, "a0", idOf(3)), entry(api.ModeLink, "b", api.Id{})}, {entry(api.ModeExec, " ", idOf(9)), dir("100644 a")}} {
		treeFormat().wantTurned(t, treeText(l), plainTree)
	}
}

// anyEntries answers entries by chance, in form for the most part.
func anyEntries(r *rand.Rand) []api.Entry {
	modes := []int{api.ModeTree, api.ModeTree, api.ModeFile, api.ModeExec, api.ModeLink}
	var l []api.Entry
	for range r.Intn(6) {
		e := api.Entry{Mode: modes[r.Intn(5)], Name: "a" + chance(r, 2, ".", "/", "0", "a", "-", "\x00"), Id: anyId(r)}
		switch r.Intn(60) {
		case 0:
			e.Mode = 0o100664
		case 1:
			e.Name = chance(r, 1, ".git", "..", letters(101))
		case 2:
			e.Name = chance(r, 3, "a", "b", "/", "\xff")
		}
		l = append(l, e)
	}
	if r.Intn(5) > 0 {
		slices.SortFunc(l, func(a, b api.Entry) int { return strings.Compare(modeKey(a), modeKey(b)) })
	}
	return l
}

// modeKey answers what an entry is ordered by.
func modeKey(e api.Entry) string {
	if e.Mode == api.ModeTree {
		return e.Name + "/"
	}
	return e.Name
}

// P7.2, P7.4: trees by chance, against the plain model.
func TestTreesByChance(t *testing.T) {
	r := rand.New(rand.NewSource(2))
	f := treeFormat()
	seen := map[api.Errno]int{}
	for range 100000 {
		l := anyEntries(r)
		wanted := plainTreeError(l)
		seen[wanted]++
		if wanted == api.OK {
			f.wantText(t, l, treeText(l))
		} else {
			f.wantNoPut(t, "entries by chance", l, wanted)
		}
		f.wantPlain(t, treeText(l), plainTree)
	}
	for _, e := range []api.Errno{api.OK, api.ErrName, api.ErrForm, api.ErrExists} {
		if seen[e] < 1000 {
			t.Errorf("trees by error: %v", seen)
		}
	}
}

// The rule 'Memory', for trees.
func TestTreeMemory(t *testing.T) {
	l := append(make([]api.Entry, 0, 10), file("a"+letters(40)), dir("b"+letters(50)), file("c"+letters(60)))
	kept := slices.Clone(l)
	treeFormat().wantOwn(t, l)
	object.PutTree(l[:2])
	if !slices.Equal(l, kept) || slices.ContainsFunc(l[3:10], func(e api.Entry) bool { return e != api.Entry{} }) {
		t.Error("PutTree changes its argument")
	}
	text := treeText(l)
	first, _ := object.ParseTree([]byte(text))
	second, _ := object.ParseTree([]byte(text))
	clear(second[:cap(second)])
	if !slices.Equal(first, kept) {
		t.Error("two answers of ParseTree share memory")
	}
	again, _ := object.ParseTree([]byte(text))
	wantApart(t, first[0].Name, first[1].Name, first[2].Name, again[0].Name, again[1].Name, again[2].Name)
}
