package odb_test

import (
	"bytes"
	"slices"
	"strconv"
	"strings"
	"testing"

	"codicil/api"
	"codicil/odb"
	"codicil/pack"
	"codicil/packidx"
)

// wantAlone fails unless Repack of these objects leaves one pack with them alone; it answers the files behind it.
func wantAlone(t *testing.T, files []api.File, list ...api.Object) []api.File {
	t.Helper()
	ids := idsOf(list...)
	slices.Reverse(ids)
	wanted := sealedPack(list...)
	var gone []api.File
	for _, f := range files {
		if strings.HasPrefix(f.Path, "objects/") && f.Path != wanted[0].Path && f.Path != wanted[1].Path {
			gone = append(gone, f)
		}
	}
	behind := wantRepack(t, "all", files, ids, byPaths(allGone(gone...), changes(wanted...))...)
	wantIds(t, "behind Repack", behind, ids...)
	return behind
}

// P14.2, P14.4: objects come into one pack, wherever they were.
func TestRepack(t *testing.T) {
	all := several()
	for what, files := range map[string][]api.File{
		"loose":                own(all...),
		"in one pack":          inPack("a", all...),
		"in two packs":         join(inPack("a", all[:5]...), inPack("b", all[3:]...)),
		"loose and packed":     join(own(all[:5]...), inPack("a", all[5:]...)),
		"loose and packed too": join(own(all...), inPack("a", all[5:]...), inPack("b", all...)),
		"with others":          join(own(all...), []api.File{file("a", "x"), file("objects", "not under it"), file("objects.b", ""), file("objects0/b", ""), file("objects/b", "under it"), file("objects/pack/x", ""), file("objects/info/packs", ""), file("work/objects/c", "y"), file("z", "")}),
	} {
		for _, n := range []int{1, 2, 7, len(all)} {
			behind := wantAlone(t, files, all[:n]...)
			for i, o := range all {
				if i < n {
					wantObject(t, what+", behind Repack", behind, o)
				} else {
					wantNoObject(t, what+", behind Repack", behind, idOf(o), api.ErrNone)
				}
			}
			if rest := outside(behind); !sameFiles(rest, outside(files)) {
				t.Errorf("%s: Repack changes files that aren't under objects/", what)
			}
			// Once more there is nothing to do.
			wantRepack(t, what+", again", behind, idsOf(all[:n]...))
		}
	}
}

// outside answers the files that aren't under objects/.
func outside(files []api.File) []api.File {
	return slices.DeleteFunc(slices.Clone(files), func(f api.File) bool { return strings.HasPrefix(f.Path, "objects/") })
}

// P14.2: the bytes: objects alone, by ids, wrapped in the way 2; the name is the pack's sum.
func TestRepackBytes(t *testing.T) {
	all := several()
	list, e := odb.Repack(inPack("a", all...), idsOf(all...))
	if e != api.OK || len(list) != 4 {
		t.Fatalf("Repack: %q, error %d", paths(list), e)
	}
	index, p := list[2], list[3]
	pieces, _ := pack.Pieces(p.Data)
	var ids []api.Id
	size := 0
	for _, piece := range pieces {
		if piece.Kind < 1 || piece.Kind > 4 {
			t.Errorf("an item of the kind %d", piece.Kind)
		}
		ids = append(ids, idOf(api.Object{Kind: api.Kind(piece.Kind), Data: piece.Data}))
		size += len(piece.Data)
	}
	if !slices.Equal(ids, rising(idsOf(all...))) {
		t.Error("the objects don't stand by ids")
	}
	if size < 2000 || len(p.Data) > 800 {
		t.Errorf("%d bytes have become %d: they are not wrapped in the way 2", size, len(p.Data))
	}
	rows, end, e := packidx.Parse(index.Data)
	if e != api.OK || end != api.Id(p.Data[len(p.Data)-32:]) || len(rows) != len(all) {
		t.Fatalf("the index: %d rows, error %d", len(rows), e)
	}
	for i, row := range rows {
		if row.Id != ids[i] || row.At != uint64(pieces[i].At) || row.Crc != pieces[i].Crc {
			t.Errorf("the row %d leads elsewhere", i)
		}
	}
}

// P14.2: of no objects there is no pack file, and all that is under objects/ goes.
func TestRepackNothing(t *testing.T) {
	wantRepack(t, "nothing", nil, nil)
	wantRepack(t, "nothing", []api.File{}, []api.Id{})
	wantRepack(t, "ids that are not there", nil, []api.Id{{}, {1}, {2}})
	wantRepack(t, "others", []api.File{file("a", "x"), file("objects", "")}, []api.Id{{1}})
	files := join(own(several()...), inPack("a", blob("abc")), []api.File{file("objects/x/y", ""), file("z", "")})
	under := slices.DeleteFunc(slices.Clone(files), func(f api.File) bool { return f.Path == "z" })
	for _, keep := range [][]api.Id{nil, {{}}, {{1}, {2}}} {
		behind := wantRepack(t, "none is kept", files, keep, allGone(under...)...)
		wantIds(t, "none is kept", behind)
	}
	// Objects that can't be got are no matter, where they are not kept.
	broken := join([]api.File{file(placeOf(api.Id{1}), "x")}, named("a", []byte("x"), inPack("", blob("abc"))[0].Data))
	wantRepack(t, "none is kept of what has errors", broken, nil, allGone(broken...)...)
}

// P14.2: ids that are not there are left out, and each one comes once.
func TestRepackKeep(t *testing.T) {
	one, two, three := blob("one"), blob("two"), blob("three")
	files := join(own(one, two), inPack("a", two, three))
	wanted := byPaths(allGone(files...), changes(sealedPack(one, three)...))
	a, b := idOf(one), idOf(three)
	for _, keep := range [][]api.Id{{a, b}, {b, a}, {a, b, a}, {b, b, b, a, a}, {{}, a, {1}, b, {255}}, {blobId("other"), b, a, blobId("other")}} {
		behind := wantRepack(t, "some", files, keep, wanted...)
		wantIds(t, "some", behind, a, b)
	}
}

// P14.2: a file that stands already with the same bytes is no change; with others it is.
func TestRepackStandsAlready(t *testing.T) {
	list := several()
	ids := idsOf(list...)
	stands := sealedPack(list...)
	wantRepack(t, "both stand", stands, ids)
	wantRepack(t, "both stand, with others", join(stands, own(list[:2]...)), ids, allGone(own(list[:2]...)...)...)
	wantRepack(t, "the pack stands without its index", join(stands[1:], own(list...)), ids, byPaths(allGone(own(list...)...), changes(stands[0]))...)
	wantRepack(t, "the index stands without its pack", join(stands[:1], own(list...)), ids, byPaths(allGone(own(list...)...), changes(stands[1]))...)
	turned := bytes.Clone(stands[1].Data)
	turned[len(turned)-1] ^= 1
	bad := []api.File{stands[0], {Path: stands[1].Path, Data: turned}}
	wantRepack(t, "the pack stands with other bytes", join(bad, own(list...)), ids, byPaths(allGone(own(list...)...), changes(stands[1]))...)
	bad = []api.File{{Path: stands[0].Path, Data: stands[0].Data[:90]}, stands[1]}
	wantRepack(t, "the index stands with other bytes", join(bad, own(list...)), ids, byPaths(allGone(own(list...)...), changes(stands[0]))...)
	other := inPack("other", list...)
	wantRepack(t, "it stands under another name", other, ids, byPaths(allGone(other...), changes(stands...))...)
	// Fewer are kept: what stands goes.
	fewer := sealedPack(list[1:]...)
	wantRepack(t, "one less", stands, ids[1:], byPaths(allGone(stands...), changes(fewer...))...)
}

// P14.2: Get's error of the first id, by Ids, that has one.
func TestRepackRefused(t *testing.T) {
	good := blobs("abc", "abd", "abe")
	low, middle, high := api.Id{1}, api.Id{2}, api.Id{3}
	looseWith := func(id api.Id, data string) []api.File { return []api.File{file(placeOf(id), data)} }
	files := join(own(good...), looseWith(low, ""), looseWith(high, string(own(blob("x"))[0].Data)), named("a", []byte("no pack: it has 44 bytes and another beginning"), indexed([]packidx.Row{{Id: middle, At: 12}}, make([]byte, 32))))
	ids := idsOf(good...)
	wantNoRepack(t, "no bytes", files, append(slices.Clone(ids), low), api.ErrShort)
	wantNoRepack(t, "a pack with an error", files, append(slices.Clone(ids), middle), api.ErrForm)
	wantNoRepack(t, "another object", files, append(slices.Clone(ids), high), api.ErrSum)
	wantNoRepack(t, "all three", files, []api.Id{high, middle, low}, api.ErrShort)
	wantNoRepack(t, "two", files, []api.Id{high, ids[0], middle}, api.ErrForm)
	wantNoRepack(t, "two, and one that isn't there", files, []api.Id{{}, high, middle}, api.ErrForm)
	wantRepack(t, "none of them", files, ids, byPaths(allGone(files...), changes(sealedPack(good...)...))...)
	p := packed(good...)
	stray := named("b", p, indexed([]packidx.Row{{Id: ids[0], At: 13}}, p))
	wantNoRepack(t, "a row that leads astray", stray, ids[:1], api.ErrSum)
}

// P14.2: files that are not in order.
func TestRepackOutOfOrder(t *testing.T) {
	many := make([]api.Id, api.MaxObjects+1)
	for what, files := range outOfOrder(own(blob("abc"))[0]) {
		wantNoRepack(t, what, files, nil, api.ErrForm)
		wantNoRepack(t, what, files, []api.Id{blobId("abc")}, api.ErrForm)
		wantNoRepack(t, what, files, []api.Id{{1}}, api.ErrForm)
		wantNoRepack(t, what+", and too many ids", files, many, api.ErrLong)
	}
}

// P14.2, P14.4: MaxObjects ids, and one more.
func TestRepackLimit(t *testing.T) {
	var list []api.Object
	for i := range api.MaxObjects + 1 {
		list = append(list, blob(strconv.Itoa(i)))
	}
	half := len(list) / 2
	files := join(own(list[:half]...), inPack("a", list[half:]...))
	ids := idsOf(list...)
	wantNoRepack(t, "one id too many", files, ids, api.ErrLong)
	wantIds(t, "one more than MaxObjects", files, ids...)
	behind := wantAlone(t, files, list[:api.MaxObjects]...)
	for _, i := range []int{0, 1, half, api.MaxObjects - 1} {
		wantObject(t, "MaxObjects objects", behind, list[i])
	}
	wantNoObject(t, "MaxObjects objects", behind, ids[api.MaxObjects], api.ErrNone)
	// The list is what is asked, wherever its ids are.
	wantNoRepack(t, "too many ids that are not there", nil, ids, api.ErrLong)
	wantNoRepack(t, "too many times one id", own(list[0]), slices.Repeat(ids[:1], api.MaxObjects+1), api.ErrLong)
	wantRepack(t, "MaxObjects ids that are not there", nil, ids[:api.MaxObjects])
	wantRepack(t, "MaxObjects times one id", sealedPack(list[0]), slices.Repeat(ids[:1], api.MaxObjects))
}

// P14.4: an object that is too long for a file of its own goes from pack to pack.
func TestRepackLongest(t *testing.T) {
	long := blob(strings.Repeat("\x00", api.MaxData))
	behind := wantAlone(t, inPack("a", long, blob("abc")), long, blob("abc"))
	wantObject(t, "the longest", behind, long)
}
