package trees_test

import (
	"bytes"
	"fmt"
	"math/rand"
	"slices"
	"strings"
	"testing"

	"codicil/api"
	"codicil/loose"
	"codicil/names"
	"codicil/object"
	"codicil/odb"
)

// at answers the slot of an entry below a folder's path.
func at(path string, e api.Entry) api.Slot {
	return api.Slot{Path: path + e.Name, Mode: e.Mode, Id: e.Id}
}

// P18.2: the files of folders, where these stand; a folder without files has none.
func TestFlatten(t *testing.T) {
	none := tree()
	x := tree(file("x"))
	deep := tree(folder("a", none), folder("b", x), folder("c", tree(folder("d", none))))
	root := tree(file("a.b"), folder("a", deep), file("a0"), folder("b", none), folder("c", x), file("z"))
	all := []api.Object{none, x, tree(folder("d", none)), deep, root, {Kind: api.Blob, Data: []byte("more")}, tree(file("other"))}
	for what, files := range map[string][]api.File{"own files": own(all...), "a pack": packed(t, all...)} {
		wantFlat(t, what, files, idOf(root), at("", file("a.b")), at("a/b/", file("x")), at("", file("a0")), at("c/", file("x")), at("", file("z")))
		wantFlat(t, what, files, idOf(deep), at("b/", file("x")))
		wantFlat(t, what, files, idOf(none))
		wantFlat(t, what, files, idOf(x), at("", file("x")))
	}
	links := tree(api.Entry{Mode: api.ModeLink, Name: "l"}, api.Entry{Mode: api.ModeExec, Name: "x", Id: idOf(none)})
	wantFlat(t, "files whose ids are no blobs'", own(links, none), idOf(links), api.Slot{Path: "l", Mode: api.ModeLink}, api.Slot{Path: "x", Mode: api.ModeExec, Id: idOf(none)})
}

// P18.2: objects that aren't there, aren't trees, or aren't in form, as the root and as a folder.
func TestFlattenRefused(t *testing.T) {
	x := tree(file("x"))
	for what, o := range map[string]struct {
		api.Object
		errno api.Errno
	}{
		"a blob":                 {api.Object{Kind: api.Blob, Data: x.Data}, api.ErrType},
		"a blob without bytes":   {api.Object{Kind: api.Blob}, api.ErrType},
		"a commit":               {api.Object{Kind: api.Commit, Data: []byte("tree")}, api.ErrType},
		"a tag":                  {api.Object{Kind: api.Tag, Data: x.Data}, api.ErrType},
		"bytes that are no tree": {api.Object{Kind: api.Tree, Data: []byte("x")}, api.ErrForm},
		"a tree cut short":       {api.Object{Kind: api.Tree, Data: x.Data[:len(x.Data)-1]}, api.ErrForm},
		"entries that fall":      {tree(file("b"), file("a")), api.ErrForm},
		"one name twice":         {tree(file("a"), folder("a", x)), api.ErrForm},
		"the name .git":          {tree(file(".git")), api.ErrForm},
		"the name ..":            {tree(file("..")), api.ErrForm},
		"the folder .GIT":        {tree(folder(".GIT", x)), api.ErrForm},
		"a name with a /":        {tree(file("a/b")), api.ErrForm},
		"no name":                {tree(file("")), api.ErrForm},
		"a name of 101 bytes":    {tree(file(letters(101))), api.ErrForm},
		"no mode":                {tree(api.Entry{Mode: 0o100664, Name: "a"}), api.ErrForm},
		"one entry too many":     {tree(numbered(4097)...), api.ErrForm},
	} {
		wantBoth(t, what, o.Object, x, o.errno)
	}
	wantNotFlat(t, "no files", nil, idOf(x), api.ErrNone)
	wantNotFlat(t, "another root", own(x), api.Id{}, api.ErrNone)
	missing := tree(file("a"), folder("b", x), file("c"))
	wantNotFlat(t, "a folder that isn't there", own(missing), idOf(missing), api.ErrNone)
	wantNotFlat(t, "a folder that isn't there, in a pack", packed(t, missing), idOf(missing), api.ErrNone)
}

// wantBoth fails unless Flatten has that error of an object as the root and as a folder, with a file of its own and in a pack.
func wantBoth(t *testing.T, what string, o, good api.Object, errno api.Errno) {
	t.Helper()
	outer := tree(file("a"), folder("b", o), folder("c", good))
	outermost := tree(folder("b", good), folder("z", outer))
	list := []api.Object{o, good, outer, outermost}
	for _, files := range [][]api.File{own(list...), packed(t, list...)} {
		for _, root := range []api.Object{o, outer, outermost} {
			wantNotFlat(t, what, files, idOf(root), errno)
		}
		wantFlat(t, what+" beside it", files, idOf(good), at("", file("x")))
	}
}

// numbered answers so many files of a tree.
func numbered(n int) []api.Entry {
	var list []api.Entry
	for i := range n {
		list = append(list, file(fmt.Sprintf("%04d", i)))
	}
	return list
}

// P18.2: files that are not in order, whatever the root.
func TestFilesOutOfOrder(t *testing.T) {
	x := tree(file("x"))
	good := own(x)[0]
	for what, files := range map[string][]api.File{
		"files that fall": {{Path: "z"}, good}, "files that fall behind": {good, {Path: "a"}}, "one path twice": {good, good},
		"an empty path": {{Path: ""}, good}, "a path with ..": {good, {Path: "x/../y"}}, "a path with .git": {{Path: ".git/x"}, good},
	} {
		for _, root := range []api.Id{idOf(x), {}, {1}} {
			wantNotFlat(t, what, files, root, api.ErrForm)
		}
	}
	wantFlat(t, "other files beside it", []api.File{{Path: "a"}, good, {Path: "z"}}, idOf(x), at("", file("x")))
}

// P18.2: odb.Get's errors of a tree.
func TestFlattenGet(t *testing.T) {
	x, other := tree(file("x")), tree(file("y"))
	outer := tree(file("a"), folder("b", x))
	right := own(outer, x)
	place := slices.IndexFunc(right, func(f api.File) bool { return f.Path == loose.Place(idOf(x)) })
	with := func(data []byte) []api.File {
		files := slices.Clone(right)
		files[place].Data = data
		return files
	}
	data := right[place].Data
	turned := bytes.Clone(data)
	turned[len(turned)-1]++
	for what, files := range map[string][]api.File{
		"no bytes": with(nil), "no stream": with([]byte("x")), "a turned sum": with(turned), "cut short": with(data[:len(data)-1]),
		"a byte more": with(append(bytes.Clone(data), 0)), "another object": with(own(other)[0].Data),
	} {
		_, e := odb.Get(files, idOf(x))
		if e == api.OK {
			t.Errorf("%s: there is no error", what)
		}
		wantNotFlat(t, what, files, idOf(x), e)
		wantNotFlat(t, what+", of a folder", files, idOf(outer), e)
	}
	inPack := packed(t, outer, x)
	inPack[1].Data[len(inPack[1].Data)-1]++
	wantNotFlat(t, "a pack with a fault", inPack, idOf(outer), api.ErrSum)
}

// P18.2: of several errors the first that is met, entry by entry, each folder's where it stands.
func TestFirstError(t *testing.T) {
	blob := api.Object{Kind: api.Blob, Data: []byte("b")}
	form := api.Object{Kind: api.Tree, Data: []byte("x")}
	gone := tree(file("gone"))
	tooLong := tree(file(letters(100)))
	faults := []struct {
		o     api.Object
		errno api.Errno
	}{{blob, api.ErrType}, {form, api.ErrForm}, {gone, api.ErrNone}, {tooLong, api.ErrName}}
	name := func(n int) string { return letters(99) + fmt.Sprint(n) }
	for _, first := range faults {
		for _, second := range faults {
			root := tree(folder(name(1), first.o), folder(name(2), second.o))
			wantNotFlat(t, "two folders", own(blob, form, tooLong, root), idOf(root), first.errno)
			inner := tree(folder("a", first.o))
			if first.errno != api.ErrName {
				root = tree(folder("a", inner), folder(name(2), second.o))
				wantNotFlat(t, "a folder in a folder", own(blob, form, tooLong, inner, root), idOf(root), first.errno)
			}
		}
		many := append(numbered(4094), folder(name(1), first.o))
		wantNotFlat(t, "the last entry that may be", own(blob, form, tooLong, tree(many...)), idOf(tree(many...)), first.errno)
		// The entry that is one too many is met behind the fault.
		more := append(many, folder("z", tree(numbered(3)...)))
		wantNotFlat(t, "too many entries behind it", own(blob, form, tooLong, tree(numbered(3)...), tree(more...)), idOf(tree(more...)), first.errno)
		full := tree(numbered(4094)...)
		root := tree(folder("a", full), folder(name(1), tree()), folder(name(2), first.o))
		wantNotFlat(t, "too many entries ahead of it", own(blob, form, tooLong, tree(), full, root), idOf(root), api.ErrLong)
	}
	outer := tree(folder("a", gone), file("b"))
	long := tree(folder(letters(100), tree(folder(letters(100), gone))))
	wantNotFlat(t, "a folder that isn't there", own(outer), idOf(outer), api.ErrNone)
	wantNotFlat(t, "a folder that isn't there, with a path that is too long", own(long, tree(folder(letters(100), gone))), idOf(long), api.ErrName)
}

// P18.2: MaxEntries entries in all, files and folders together, and one more.
func TestFlattenMany(t *testing.T) {
	var flat []api.Slot
	for _, e := range numbered(4096) {
		flat = append(flat, at("", e))
	}
	whole := tree(numbered(4096)...)
	wantFlat(t, "MaxEntries files", own(whole), idOf(whole), flat...)
	for n := range 3 {
		// 4094 files, a folder, and its n files.
		inner := tree(numbered(n)...)
		root := tree(append(numbered(4094), folder("z", inner))...)
		files := own(inner, root)
		if n < 2 {
			wanted := slices.Clone(flat[:4094])
			for _, e := range numbered(n) {
				wanted = append(wanted, at("z/", e))
			}
			wantFlat(t, "4095 entries and a folder's", files, idOf(root), wanted...)
			continue
		}
		wantNotFlat(t, "one entry too many", files, idOf(root), api.ErrLong)
	}
	none := tree()
	var empty []api.Entry
	for i := range 4096 {
		empty = append(empty, folder(fmt.Sprintf("%04d", i), none))
	}
	root := tree(empty...)
	wantFlat(t, "MaxEntries folders without files", own(none, root), idOf(root))
	outer := tree(folder("a", root))
	wantNotFlat(t, "one folder too many", own(none, root, outer), idOf(outer), api.ErrLong)
	one := tree(file("x"))
	var half []api.Entry
	var wanted []api.Slot
	for i := range 2048 {
		half = append(half, folder(fmt.Sprintf("%04d", i), one))
		wanted = append(wanted, at(fmt.Sprintf("%04d/", i), file("x")))
	}
	root = tree(half...)
	wantFlat(t, "as many folders as files", own(one, root), idOf(root), wanted...)
	root = tree(append(half, file("z"))...)
	wantNotFlat(t, "as many folders as files, and one more", own(one, root), idOf(root), api.ErrLong)
	root = tree(append([]api.Entry{file("!")}, half...)...)
	wantNotFlat(t, "one more ahead of them", own(one, root), idOf(root), api.ErrLong)
}

// P18.2, P1: of an entry that is one too many and has a path that may not be, the first error counts.
func TestLongAndName(t *testing.T) {
	inner := tree(file(letters(99)), file(letters(100)))
	for n, errno := range map[int]api.Errno{4092: api.ErrName, 4093: api.ErrName, 4094: api.ErrLong, 4095: api.ErrLong} {
		// n files, the folder, its first file, and the one at fault.
		root := tree(append(numbered(n), folder(letters(100), inner))...)
		wantNotFlat(t, fmt.Sprint(n, " files ahead"), own(inner, root), idOf(root), errno)
	}
}

// doubled answers trees each of which has the one ahead of it twice; the first one is without entries.
func doubled(count int) []api.Object {
	list := []api.Object{tree()}
	for range count {
		last := list[len(list)-1]
		list = append(list, tree(folder("a", last), folder("b", last)))
	}
	return list
}

// P18.2, P1: folders that double at each step: the walk ends, and no slot comes of it.
func TestDoubling(t *testing.T) {
	for count, errno := range map[int]api.Errno{0: api.OK, 1: api.OK, 5: api.OK, 11: api.OK, 12: api.ErrLong, 13: api.ErrLong, 40: api.ErrLong, 100: api.ErrLong, 101: api.ErrName, 150: api.ErrName} {
		list := doubled(count)
		root := idOf(list[len(list)-1])
		for _, files := range [][]api.File{own(list...), packed(t, list...)} {
			if errno == api.OK {
				wantFlat(t, fmt.Sprint(count, " steps"), files, root)
			} else {
				wantNotFlat(t, fmt.Sprint(count, " steps"), files, root, errno)
			}
		}
	}
	list := doubled(10)
	list[0] = tree(file("x"))
	for i := range list[1:] {
		list[i+1] = tree(folder("a", list[i]), folder("b", list[i]))
	}
	var wanted []api.Slot
	for n := range 1024 {
		path := ""
		for bit := 9; bit >= 0; bit-- {
			path += []string{"a/", "b/"}[n>>bit&1]
		}
		wanted = append(wanted, at(path, file("x")))
	}
	wantFlat(t, "doubled, with a file", own(list...), idOf(list[10]), wanted...)
}

// P18.2: paths that grow too long, of files and of folders.
func TestLongPaths(t *testing.T) {
	for n, errno := range map[int]api.Errno{98: api.OK, 99: api.OK, 100: api.ErrName} {
		inner, none := tree(file(letters(n))), tree()
		outer, empty := tree(folder(letters(100), inner)), tree(folder(letters(n), none))
		root := tree(folder(letters(100), empty))
		files := own(inner, outer, none, empty, root)
		if errno == api.OK {
			wantFlat(t, "a file", files, idOf(outer), at(letters(100)+"/", file(letters(n))))
			wantFlat(t, "a folder without files", files, idOf(root))
			continue
		}
		wantNotFlat(t, "a file with a path that is too long", files, idOf(outer), errno)
		wantNotFlat(t, "a folder with a path that is too long", files, idOf(root), errno)
	}
	chain := []api.Object{tree(file("a"))}
	for range 120 {
		chain = append(chain, tree(folder("a", chain[len(chain)-1])))
	}
	files := own(chain...)
	wantFlat(t, "100 parts", files, idOf(chain[99]), at(strings.Repeat("a/", 99), file("a")))
	for _, i := range []int{100, 101, 120} {
		wantNotFlat(t, "more than 100 parts", files, idOf(chain[i]), api.ErrName)
	}
}

// plainFlatten answers by the chapter's words the slots of a tree: what is to do is a list, whose front is done next.
func plainFlatten(files []api.File, root api.Id) ([]api.Slot, api.Errno) {
	type todo struct {
		api.Entry
		path string
	}
	var list []api.Slot
	met := -1
	for next := []todo{{api.Entry{Mode: api.ModeTree, Id: root}, ""}}; len(next) > 0; {
		e := next[0]
		next = next[1:]
		if met++; met > 4096 {
			return nil, api.ErrLong
		}
		if e.path != "" && !names.Path(e.path) {
			return nil, api.ErrName
		}
		if e.Mode != api.ModeTree {
			list = append(list, api.Slot{Path: e.path, Mode: e.Mode, Id: e.Id})
			continue
		}
		o, errno := odb.Get(files, e.Id)
		if errno != api.OK {
			return nil, errno
		}
		if o.Kind != api.Tree {
			return nil, api.ErrType
		}
		entries, errno := object.ParseTree(o.Data)
		if errno != api.OK {
			return nil, errno
		}
		var inner []todo
		for _, x := range entries {
			inner = append(inner, todo{x, strings.TrimPrefix(e.path+"/"+x.Name, "/")})
		}
		next = append(inner, next...)
	}
	return list, api.OK
}

// anyObjects answers objects by chance, most of them trees of those ahead of them.
func anyObjects(r *rand.Rand) []api.Object {
	list := []api.Object{tree()}
	for range 1 + r.Intn(12) {
		o := api.Object{Kind: api.Kind(1 + r.Intn(4)), Data: []byte{byte(r.Intn(4))}}
		if r.Intn(6) > 0 {
			var entries []api.Entry
			for _, name := range []string{"a", "a.b", "a0", "b", letters(99)} {
				switch r.Intn(4) {
				case 0:
					entries = append(entries, file(name))
				case 1:
					entries = append(entries, folder(name, list[r.Intn(len(list))]))
				}
			}
			slices.SortFunc(entries, func(a, b api.Entry) int { return strings.Compare(key(a), key(b)) })
			if len(entries) > 0 && r.Intn(30) == 0 {
				entries = append(entries, entries[0])
			}
			o = tree(entries...)
		}
		list = append(list, o)
	}
	return list
}

// P18.2, P1: objects by chance, some of which are no trees or aren't there, against the chapter's words.
func TestFlattenByChance(t *testing.T) {
	r := rand.New(rand.NewSource(19))
	ends := map[api.Errno]int{}
	for range 1200 {
		list := anyObjects(r)
		files := own(list...)
		if r.Intn(3) == 0 {
			files = packed(t, list...)
		} else if r.Intn(2) == 0 {
			i := r.Intn(len(files))
			files = slices.Delete(files, i, i+1)
		}
		for _, o := range list {
			wanted, e := plainFlatten(files, idOf(o))
			ends[e]++
			if e == api.OK {
				wantFlat(t, "by chance", files, idOf(o), wanted...)
			} else {
				wantNotFlat(t, "by chance", files, idOf(o), e)
			}
		}
	}
	for _, e := range []api.Errno{api.OK, api.ErrNone, api.ErrType, api.ErrForm, api.ErrName} {
		if ends[e] < 100 {
			t.Errorf("too little was tried: %v", ends)
		}
	}
}
