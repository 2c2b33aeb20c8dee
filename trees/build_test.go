package trees_test

import (
	"encoding/hex"
	"fmt"
	"math/rand"
	"slices"
	"strings"
	"testing"

	"codicil/api"
	"codicil/index"
	"codicil/trees"
)

// P18.1: the chapter's examples.
func TestExample(t *testing.T) {
	inner := tree(api.Entry{Mode: slot("a/b").Mode, Name: "b", Id: blobId("a/b")}, api.Entry{Mode: slot("a/c").Mode, Name: "c", Id: blobId("a/c")})
	wantBuilt(t, "a/b, a/c, d", slots("a/b", "a/c", "d"), inner, tree(folder("a", inner), file("d")))
	wantBuilt(t, "none", nil, api.Object{Kind: api.Tree})
	wantBuilt(t, "an empty list", []api.Slot{}, api.Object{Kind: api.Tree})
	wantRefused(t, "a, a/b", slots("a", "a/b"), api.ErrExists)
}

// P18.1: Git's ids of trees with folders in folders, and with names that stand otherwise as a folder than as a file.
func TestGit(t *testing.T) {
	one := fromDigits(t, "437613f2000d14882113a8ceeb5e68572589edac29230c9fecd09d682612c4a3")
	two := fromDigits(t, "9d500193ed108f2f3ad67e1870148696dce98f56644f500176a1dc1cf1634f64")
	three := fromDigits(t, "b0784b7d2033618177b361977e0f1572f5d0d2a0d103cba0e6a56fe7412f9624")
	l := []api.Slot{
		{Path: "a.b", Mode: api.ModeFile, Id: one}, {Path: "a/b", Mode: api.ModeExec, Id: two}, {Path: "a/c/d", Mode: api.ModeFile, Id: three},
		{Path: "a0", Mode: api.ModeLink, Id: one}, {Path: "b/b", Mode: api.ModeFile, Id: two}, {Path: "long/name/of/a/file", Mode: api.ModeFile, Id: one},
	}
	list, root, e := trees.Build(l)
	wanted := []string{
		"4250577d914399c19077887bc8951f9b6fc0982e2acfb8c557a37d7ee4e971ad", // a/c
		"776281a9ac678ad63038d3561adb690c2c71ece6788d12b3289e7330fbabf469", // a
		"52b4555f9069f298f7d7496bb589b92f865cfb4c5a098f05dbbd56ef79cf33cf", // b
		"fe8eacf3fe16f92c7453f369d733935758440dd4fea8a21bdbbac76d1fa3f725", // long/name/of/a
		"f184ebd95d82ab4908c2fabb8655cab48808b585a3f748708683aae542121291", // long/name/of
		"68ee53b7efbc55c23fbc477a63b24ca97bb3e51f8d9502cd5402d4bda5f1ba60", // long/name
		"bf17b663a0a88064628bc45b1e05fffec6fabab9ddba948a8fe785ca497f7aca", // long
		"478a73141b7f94f0a930290029759056f11c74010ec9474f3c8b23162d885d8b",
	}
	if e != api.OK || len(list) != len(wanted) || root != fromDigits(t, wanted[7]) {
		t.Fatalf("%d trees, the root %x, error %d", len(list), root, e)
	}
	for i, o := range list {
		if o.Kind != api.Tree || idOf(o) != fromDigits(t, wanted[i]) {
			t.Errorf("the tree %d is %q", i, o.Data)
		}
	}
	wantBack(t, "Git's", l)
}

// fromDigits answers the id of these digits.
func fromDigits(t *testing.T, digits string) api.Id {
	t.Helper()
	p, err := hex.DecodeString(digits)
	if err != nil {
		t.Fatal(err)
	}
	return api.Id(p)
}

// P18.1, P18.3: ordinary slots, folders in folders, and names that stand otherwise as a folder than as a file.
func TestBuild(t *testing.T) {
	for _, list := range [][]string{
		nil, {"a"}, {"a", "b"}, {"a/b"}, {"a/b/c/d/e"}, {"a/b/c", "a/b/d", "a/e", "f"}, {"a/b/c", "a/d/e", "f/g/h", "i/j/k"},
		{"a", "a.b", "a0"}, {"a.b", "a/b", "a0"}, {"a-b", "a.b", "a/b", "a0", "ab"}, {"a.b/c", "a/b", "a0/c"}, {"a-b/a-b", "a-b/a.b", "a-b/a/b", "a-b/a0", "a/b"},
		{"a", "a.", "a.b"}, {"a", "a./b", "a.b"}, {"\x01", "\x01\x01/a", "\xff/\xff"}, {" /a", " 0", " a"}, {"a b/c\nd"},
		{letters(100) + "/" + letters(99)}, {strings.Repeat("a/", 99) + "a"}, {strings.Repeat("a/", 98) + "a", strings.Repeat("b/", 99) + "b"},
	} {
		wantBack(t, fmt.Sprintf("%.50q", list), slots(list...))
	}
	sub := tree(file("x"))
	l := []api.Slot{slot("x"), slot("x"), slot("x")}
	l[0].Path, l[1].Path, l[2].Path = "a.b/x", "a/x", "a0/x"
	wantBuilt(t, "equal folders with names that stand otherwise", l, sub, sub, sub, tree(folder("a.b", sub), folder("a", sub), folder("a0", sub)))
}

// P18.1: a tree stands there as often as a folder has it, those of a folder ahead of its own.
func TestEqualFolders(t *testing.T) {
	var l []api.Slot
	for _, path := range []string{"a/x", "b/a/x", "b/b/x", "c/x"} {
		s := slot("x")
		s.Path = path
		l = append(l, s)
	}
	x := tree(file("x"))
	b := tree(folder("a", x), folder("b", x))
	wantBuilt(t, "equal folders", l, x, x, x, b, x, tree(folder("a", x), folder("b", b), folder("c", x)))
	wantBack(t, "equal folders", l)
}

// P18.1: as many slots as may be, in one folder and in as many.
func TestBuildMany(t *testing.T) {
	var flat, apart, most []api.Slot
	for i := range api.MaxEntries {
		flat = append(flat, slot(fmt.Sprintf("%04d", i)))
		apart = append(apart, slot(fmt.Sprintf("%04d/a/b", i)))
		most = append(most, slot(fmt.Sprintf("%04d%s", i, letters(96))))
	}
	wantBack(t, "MaxEntries slots", flat)
	wantBuilt(t, "MaxEntries slots in folders", apart, plainBuild(apart)...)
	wantBack(t, "MaxEntries slots with the longest names", most)
	wantRefused(t, "one slot more", append(flat, slot("x")), api.ErrLong)
}

// P18.1: a path that is a folder of another one, right ahead of it and further off, and stages that aren't 0.
func TestBuildRefused(t *testing.T) {
	for _, list := range [][]string{
		{"a", "a/b"}, {"a", "a/b/c"}, {"a", "a.b", "a/b"}, {"a", "a b", "a-b", "a.b", "a/b/c/d"}, {"a", "a.b/c", "a/b"}, {"x", "y/a", "y/a.b", "y/a/b", "z"}, {"a/b", "a/b/c"}, {"a/b/c", "a/b/c/d", "b"}, {"A", "a/b", "a/b.c", "a/b/c/d"},
	} {
		l := slots(list...)
		wantRefused(t, fmt.Sprintf("%q", list), l, api.ErrExists)
		for i := range l {
			both := slices.Clone(l)
			both[i].Stage = 1 + i%3
			wantRefused(t, fmt.Sprintf("%q, with a stage", list), both, api.ErrExists)
		}
	}
	for _, list := range [][]string{{"a", "a.b", "a0"}, {"a.b", "a/b", "a0"}, {"a", "ab/c"}, {"a/b", "ab", "b"}, {"a/b", "b"}, {"a/a", "b/a"}} {
		wantBack(t, fmt.Sprintf("%q", list), slots(list...))
	}
	for stage := 1; stage <= 3; stage++ {
		wantRefused(t, "a stage", []api.Slot{staged("a", stage)}, api.ErrClash)
		wantRefused(t, "a first stage", []api.Slot{staged("a", stage), slot("b"), slot("c/d")}, api.ErrClash)
		wantRefused(t, "a stage in a folder", []api.Slot{slot("a"), staged("b/c", stage), slot("c")}, api.ErrClash)
		wantRefused(t, "a last stage", []api.Slot{slot("a"), slot("b/c"), staged("d", stage)}, api.ErrClash)
	}
	wantRefused(t, "all stages", []api.Slot{staged("a", 1), staged("a", 2), staged("a", 3)}, api.ErrClash)
	wantRefused(t, "all stages, and a folder", []api.Slot{staged("a", 1), staged("a", 2), staged("a", 3), slot("a/b")}, api.ErrExists)
}

// FolderAmong tells of more slots than an index has, too, and of any stages.
func TestFolderAmong(t *testing.T) {
	var l []api.Slot
	for i := range 2 * api.MaxEntries {
		l = append(l, staged(fmt.Sprintf("m/%04d", i), i%4))
	}
	for what, x := range map[string]struct {
		list   []api.Slot
		wanted bool
	}{
		"no slots":       {nil, false},
		"many":           {l, false},
		"a file ahead":   {append([]api.Slot{staged("m", 1), staged("m", 3)}, l...), true},
		"a file between": {append(slices.Clone(l), slot("n"), slot("n-"), staged("n/o/p", 2)), true},
		"others":         {append([]api.Slot{staged("l", 1), slot("l-/m")}, l...), false},
	} {
		if is := trees.FolderAmong(x.list); is != x.wanted {
			t.Errorf("FolderAmong, %s: %v", what, is)
		}
	}
}

// P18.1: slots that are not in form have index.Check's error, whatever else they have.
func TestBuildNotInForm(t *testing.T) {
	change := func(make func(l []api.Slot)) []api.Slot {
		// A folder and a stage stand there, too: their errors come behind.
		l := []api.Slot{slot("a"), slot("a/b"), staged("c", 2), slot("d")}
		make(l)
		return l
	}
	for what, l := range map[string][]api.Slot{
		"a Stage":        change(func(l []api.Slot) { l[0].Stage = 4 }),
		"a Stage of -1":  change(func(l []api.Slot) { l[3].Stage = -1 }),
		"a Size":         change(func(l []api.Slot) { l[1].Size = 1 << 32 }),
		"a Time":         change(func(l []api.Slot) { l[3].Time = -1 }),
		"no path":        change(func(l []api.Slot) { l[0].Path = "" }),
		"an empty part":  change(func(l []api.Slot) { l[1].Path = "a//b" }),
		".git":           change(func(l []api.Slot) { l[1].Path = "a/.git" }),
		"a long path":    change(func(l []api.Slot) { l[1].Path = letters(100) + "/" + letters(100) }),
		"no mode":        change(func(l []api.Slot) { l[0].Mode = 0 }),
		"a tree's mode":  change(func(l []api.Slot) { l[1].Mode = api.ModeTree }),
		"paths falling":  change(func(l []api.Slot) { l[3].Path = "b" }),
		"one path twice": change(func(l []api.Slot) { l[3] = l[2] }),
		"two stages":     change(func(l []api.Slot) { l[3].Path, l[2].Stage, l[3].Stage = "c", 0, 1 }),
		"too many":       slices.Repeat(slots("a"), 4097),
	} {
		e := index.Check(l)
		if e == api.OK {
			t.Errorf("%s: there is no error", what)
		}
		wantRefused(t, what, l, e)
	}
}

// anyPaths answers paths by chance, rising, each once; at times one is a folder of another one.
func anyPaths(r *rand.Rand) []string {
	parts := []string{"a", "b", "a.b", "a-b", "a0", "ab", "\xff", " ", letters(60)}
	var list []string
	for range r.Intn(12) {
		var path []string
		for range 1 + r.Intn(3) {
			path = append(path, parts[r.Intn(len(parts))])
		}
		list = append(list, strings.Join(path, "/"))
	}
	slices.Sort(list)
	return slices.Compact(list)
}

// P18.1, P18.3: slots by chance, against the chapter's words.
func TestBuildByChance(t *testing.T) {
	r := rand.New(rand.NewSource(18))
	ends := map[api.Errno]int{}
	for range 3000 {
		l := slots(anyPaths(r)...)
		for i := range l {
			l[i].Id = blobId(fmt.Sprint(r.Intn(3)))
			if r.Intn(40) == 0 {
				l[i].Stage = 1 + r.Intn(3)
			}
		}
		e := plainError(l)
		ends[e]++
		if e == api.OK {
			wantBack(t, "by chance", l)
		} else {
			wantRefused(t, "by chance", l, e)
		}
	}
	if ends[api.OK] < 300 || ends[api.ErrExists] < 300 || ends[api.ErrClash] < 100 {
		t.Errorf("too little was tried: %v", ends)
	}
}

// plainError answers by the chapter's words the error of slots that are in form.
func plainError(l []api.Slot) api.Errno {
	e := api.OK
	for _, s := range l {
		for _, other := range l {
			if strings.HasPrefix(other.Path, s.Path+"/") {
				return api.ErrExists
			}
		}
		if s.Stage != 0 {
			e = api.ErrClash
		}
	}
	return e
}
