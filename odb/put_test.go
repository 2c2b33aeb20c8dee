package odb_test

import (
	"bytes"
	"slices"
	"testing"

	"codicil/api"
	"codicil/odb"
	"codicil/txfile"
)

// P14.2: the chapter's example, and objects that are new.
func TestPut(t *testing.T) {
	files := wantPut(t, "twice the same", nil, blobs("abc", "abc"), changes(own(blob("abc"))...)...)
	wantObject(t, "what was put", files, blob("abc"))
	wantPut(t, "no objects", nil, nil)
	wantPut(t, "no objects", files, []api.Object{})
	all := several()
	list := slices.Concat(all, all)
	slices.Reverse(list[len(all):])
	behind := wantPut(t, "several, twice each", []api.File{file("a", "x")}, list, changes(own(all...)...)...)
	for _, o := range all {
		wantObject(t, "what was put", behind, o)
	}
	wantIds(t, "what was put", behind, idsOf(all...)...)
	if !sameFiles(behind, join([]api.File{file("a", "x")}, own(all...))) {
		t.Error("Put changes other files")
	}
}

// P14.2: objects that are there already, loose or packed, of whatever bytes, are no change.
func TestPutThereAlready(t *testing.T) {
	one, two, three := blob("one"), blob("two"), blob("three")
	wantPut(t, "all are there", own(one, two), []api.Object{two, one, two})
	wantPut(t, "all are in a pack", inPack("a", one, two), []api.Object{two, one})
	wantPut(t, "some are there", join(own(one), inPack("a", two)), []api.Object{three, two, one, three}, changes(own(three)...)...)
	broken := []api.File{{Path: placeOf(idOf(one))}}
	wantPut(t, "there, with no bytes", broken, []api.Object{one, two}, changes(own(two)...)...)
	packless := named("a", []byte("x"), inPack("", one)[0].Data)
	wantPut(t, "in an index whose pack has an error", packless, []api.Object{one, two}, changes(own(two)...)...)
	wantPut(t, "in a pack without an index", inPack("a", one)[1:], []api.Object{one}, changes(own(one)...)...)
	wantPut(t, "in an index without a pack", inPack("a", one)[:1], []api.Object{one}, changes(own(one)...)...)
}

// wantNoPut fails unless Put answers that error alone.
func wantNoPut(t *testing.T, what string, files []api.File, list []api.Object, wanted api.Errno) {
	t.Helper()
	if found, ids, e := odb.Put(files, list); len(found) != 0 || len(ids) != 0 || e != wanted {
		t.Errorf("Put, %s: %d changes, %d ids, error %d, wanted error %d alone", what, len(found), len(ids), e, wanted)
	}
}

// P14.2: loose.Pack's errors, wherever the object stands in the list.
func TestPutRefused(t *testing.T) {
	good := blob("abc")
	most := api.MaxData - len("blob 1048563\x00")
	long, longer := blob(string(make([]byte, most+1))), blob(string(make([]byte, api.MaxData+1)))
	noKind, noKindLonger := object(5, "abc"), object(0, string(longer.Data))
	for _, x := range []struct {
		bad    api.Object
		wanted api.Errno
	}{{long, api.ErrLong}, {longer, api.ErrLong}, {noKind, api.ErrType}, {noKindLonger, api.ErrLong}, {object(0, ""), api.ErrType}, {object(-3, ""), api.ErrType}} {
		wantNoPut(t, "alone", nil, []api.Object{x.bad}, x.wanted)
		wantNoPut(t, "first", nil, []api.Object{x.bad, good}, x.wanted)
		wantNoPut(t, "last", own(good), []api.Object{good, good, x.bad}, x.wanted)
	}
	// Of several errors the one with the least number.
	wantNoPut(t, "ErrType and ErrLong", nil, []api.Object{noKind, long}, api.ErrLong)
	wantNoPut(t, "ErrLong and ErrType", nil, []api.Object{longer, noKind}, api.ErrLong)
	// What a pack has room for may be more than a file has room for.
	wantNoPut(t, "in a pack, but too long", inPack("a", long), []api.Object{long}, api.ErrLong)
	wantObject(t, "in a pack", inPack("a", long), long)
	greatest := blob(string(make([]byte, most)))
	wantPut(t, "the greatest", nil, []api.Object{greatest}, changes(own(greatest)...)...)
}

// P14.2: files that are not in order.
func TestPutOutOfOrder(t *testing.T) {
	long := blob(string(make([]byte, api.MaxData)))
	for what, files := range outOfOrder(own(blob("abc"))[0]) {
		wantNoPut(t, what, files, nil, api.ErrForm)
		wantNoPut(t, what, files, blobs("abc", "abd"), api.ErrForm)
		wantNoPut(t, what+", and a kind that there isn't", files, []api.Object{object(7, "")}, api.ErrForm)
		wantNoPut(t, what+", and too long", files, []api.Object{long}, api.ErrLong)
	}
}

// P14.3: the chapter's example, and files that come, are others, go and stay.
func TestMade(t *testing.T) {
	files := []api.File{file("a", "x"), file("b/c", "y"), file("d", "")}
	for _, x := range []struct {
		what          string
		files, wanted []api.File
		list          []txfile.Change
	}{
		{"the example", []api.File{file("a", "x")}, []api.File{file("b", "y")}, []txfile.Change{gone("a"), has(file("b", "y"))}},
		{"nothing", nil, nil, nil},
		{"no changes", files, files, []txfile.Change{}},
		{"of no files", nil, []api.File{file("a", "1"), file("b", "2"), file("c", "")}, []txfile.Change{has(file("c", "")), gone("d"), has(file("a", "1")), has(file("b", "2"))}},
		{"a Gone path that has no file", files, files, []txfile.Change{gone("a/b"), gone("z"), gone("b")}},
		{"all are gone", files, nil, []txfile.Change{gone("d"), gone("a"), gone("b/c")}},
		{"others", files, []api.File{file("a", ""), file("b/c", "z"), file("d", "1")}, []txfile.Change{has(file("d", "1")), has(file("b/c", "z")), has(file("a", ""))}},
		{"between", files, []api.File{file("A", "0"), file("a", "x"), file("a.b", "1"), file("a/b", "2"), file("b/c", "y"), file("b/c/d", "3"), file("d", ""), file("e", "4")}, changes(file("e", "4"), file("a/b", "2"), file("A", "0"), file("b/c/d", "3"), file("a.b", "1"))},
		{"Gone, with bytes", files, files[1:], []txfile.Change{{Path: "a", Data: []byte("not made"), Gone: true}}},
		{"nil bytes", files, []api.File{file("a", ""), files[1], files[2]}, []txfile.Change{{Path: "a"}}},
	} {
		got, e := odb.Made(x.files, x.list)
		if e != api.OK || !sameFiles(got, x.wanted) {
			t.Errorf("Made, %s: %.200q, error %d, wanted %.200q", x.what, got, e, x.wanted)
		}
	}
}

// P14.3: changes that may not be, and files that are not in order.
func TestMadeRefused(t *testing.T) {
	files := []api.File{file("a", "x"), file("b", "y")}
	x := has(file("x", "1"))
	for what, list := range map[string][]txfile.Change{
		"one path twice":             {x, x},
		"one path twice, once Gone":  {gone("x"), x},
		"twice Gone":                 {gone("a"), gone("a")},
		"one path twice, not beside": {x, gone("a"), has(file("x", "2"))},
		"an empty path":              {x, gone("")},
		"a path with an empty part":  {has(file("a//b", "")), x},
		"a path with a dot":          {has(file("a/./b", ""))},
		"a path with .git":           {gone(".git")},
		"a path that ends with /":    {x, gone("a/")},
		"a path that is too long":    {has(api.File{Path: string(bytes.Repeat([]byte("a/"), 100)) + "b"})},
		"a part that is too long":    {gone(string(bytes.Repeat([]byte("a"), 101)))},
	} {
		for _, of := range [][]api.File{nil, files, {files[1], files[0]}} {
			if got, e := odb.Made(of, list); len(got) != 0 || e != api.ErrArg {
				t.Errorf("Made, %s: %d files, error %d, wanted ErrArg alone", what, len(got), e)
			}
		}
	}
	for what, of := range outOfOrder(file("m", "")) {
		for _, list := range [][]txfile.Change{nil, {}, {x}, {gone("m")}} {
			if got, e := odb.Made(of, list); len(got) != 0 || e != api.ErrForm {
				t.Errorf("Made, %s: %d files, error %d, wanted ErrForm alone", what, len(got), e)
			}
		}
	}
	// A path may have 200 bytes here: a store's own limit is the store's.
	long := string(bytes.Repeat([]byte("a"), 100)) + "/" + string(bytes.Repeat([]byte("b"), 99))
	if got, e := odb.Made(nil, []txfile.Change{{Path: long}}); e != api.OK || len(got) != 1 {
		t.Errorf("Made of a path with 200 bytes: %d files, error %d", len(got), e)
	}
}
