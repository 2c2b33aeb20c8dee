package rename_test

import (
	"bytes"
	"slices"
	"testing"

	"codicil/api"
	"codicil/loose"
	"codicil/odb"
)

// P20.3: slots that are not in form, in the first list, in the second and in both: the first one's error counts, ahead of
// those of blobs and of files.
func TestPairsRefused(t *testing.T) {
	good := slots("b", "1", "c", "2")
	unordered := []api.File{{Path: "z"}, {Path: "a"}}
	for _, f := range faults() {
		bad := f.make(good)
		for _, files := range [][]api.File{nil, own(blobs("1", "2", "a fault")...), unordered} {
			wantNoPairs(t, f.what+" in the first", files, bad, good, 50, f.errno)
			wantNoPairs(t, f.what+" in the second", files, good, bad, 50, f.errno)
			wantNoPairs(t, f.what+" in both", files, bad, bad, 50, f.errno)
			wantNoPairs(t, f.what+" alone", files, bad, nil, 50, f.errno)
			wantNoPairs(t, f.what+" alone", files, nil, bad, 50, f.errno)
		}
		for _, other := range faults() {
			wantNoPairs(t, f.what+", then "+other.what, nil, bad, other.make(good), 100, f.errno)
		}
	}
}

// P20.3: a blob that isn't there, of a path that went, of one that came, and of both.
func TestPairsNoBlob(t *testing.T) {
	a, b := slots("a", "1", "b", "2"), slots("c", "1", "d", "3")
	wantPairs(t, "all are there", own(blobs("1", "2", "3")...), a, b, 50, pair("a", "c", 100))
	for _, texts := range [][]string{{"2", "3"}, {"1", "3"}, {"1", "2"}, {"1"}, {"3"}, {}} {
		for _, files := range [][]api.File{own(blobs(texts...)...), packed(t, blobs(texts...)...)} {
			wantNoPairs(t, "one isn't there", files, a, b, 50, api.ErrNone)
			wantNoPairs(t, "one isn't there", files, a, b, 100, api.ErrNone)
		}
	}
	// Where there is nothing to pair it with, its error counts all the same.
	wantNoPairs(t, "all went", nil, a, nil, 50, api.ErrNone)
	wantNoPairs(t, "all came", nil, nil, b, 50, api.ErrNone)
	wantPairs(t, "all went", own(blobs("1", "2")...), a, nil, 50)
	wantPairs(t, "all came", own(blobs("1", "3")...), nil, b, 50)
	// What has a path in both lists isn't got.
	wantPairs(t, "nothing went or came", nil, a, slots("a", "3", "b", "4"), 50)
	wantPairs(t, "one moved", own(blob("1")), slots("a", "1", "z", "2"), slots("b", "1", "z", "3"), 50, pair("a", "b", 100))
}

// P20.3: an object that is no blob.
func TestPairsNotABlob(t *testing.T) {
	for _, o := range []api.Object{{Kind: api.Tree}, {Kind: api.Commit, Data: []byte("1")}, {Kind: api.Tag, Data: []byte("1")}} {
		s := api.Slot{Path: "m", Mode: api.ModeFile, Id: idOf(o)}
		for _, files := range [][]api.File{own(append(blobs("1"), o)...), packed(t, append(blobs("1"), o)...)} {
			wantNoPairs(t, "it went", files, []api.Slot{s}, slots("b", "1"), 50, api.ErrType)
			wantNoPairs(t, "it came", files, slots("b", "1"), []api.Slot{s}, 50, api.ErrType)
			other := s
			other.Path = "n"
			wantNoPairs(t, "it moved", files, []api.Slot{s}, []api.Slot{other}, 50, api.ErrType)
			wantNoPairs(t, "it went alone", files, []api.Slot{s}, nil, 50, api.ErrType)
			wantNoPairs(t, "it came alone", files, nil, []api.Slot{s}, 50, api.ErrType)
			wantPairs(t, "it stays", files, []api.Slot{s}, []api.Slot{s}, 50)
		}
	}
}

// P20.3: of several the first one's error: those that went, by paths, then those that came.
func TestPairsFirstError(t *testing.T) {
	tree := api.Object{Kind: api.Tree}
	files := own(tree, blob("1"), blob("short"), blob("form"), blob("sum"))
	change := func(text string, make func(p []byte) []byte) {
		at := slices.IndexFunc(files, func(f api.File) bool { return f.Path == loose.Place(blobId(text)) })
		files[at].Data = make(files[at].Data)
	}
	change("short", func(p []byte) []byte { return p[:1] })
	change("form", func(p []byte) []byte { return append(bytes.Clone(p), 0) })
	change("sum", func(p []byte) []byte { return own(blob("another"))[0].Data })
	ids := map[api.Id]api.Errno{
		blobId("short"): api.ErrShort, blobId("form"): api.ErrForm, blobId("sum"): api.ErrSum, blobId("none"): api.ErrNone, idOf(tree): api.ErrType,
	}
	good := blobId("1")
	for first, errno := range ids {
		if _, e := odb.Get(files, first); e != errno && errno != api.ErrType {
			t.Fatalf("Get: error %d, wanted %d", e, errno)
		}
		for second := range ids {
			at := func(path string, id api.Id) api.Slot { return api.Slot{Path: path, Mode: api.ModeFile, Id: id} }
			wantNoPairs(t, "both went", files, []api.Slot{at("a", good), at("b", first), at("c", second)}, nil, 50, errno)
			wantNoPairs(t, "both came", files, nil, []api.Slot{at("a", good), at("b", first), at("c", second)}, 50, errno)
			wantNoPairs(t, "one went, one came", files, []api.Slot{at("c", first)}, []api.Slot{at("a", good), at("b", second)}, 50, errno)
			wantNoPairs(t, "one went, one stays", files, []api.Slot{at("a", second), at("c", first)}, []api.Slot{at("a", good)}, 50, errno)
		}
	}
}

// P20.3: files that are not in order have an error where a blob is got, and only there.
func TestPairsFilesOutOfOrder(t *testing.T) {
	good := own(blob("1"))[0]
	a, b := slots("a", "1", "s", "1"), slots("b", "1", "s", "1")
	for what, files := range map[string][]api.File{
		"files that fall": {{Path: "z"}, good}, "files that fall behind": {good, {Path: "a"}}, "one path twice": {good, good},
		"an empty path": {{Path: ""}, good}, "a path with ..": {good, {Path: "x/../y"}}, "a path with .git": {{Path: ".git/x"}, good},
	} {
		wantNoPairs(t, what, files, a, b, 50, api.ErrForm)
		wantNoPairs(t, what, files, a, nil, 50, api.ErrForm)
		wantNoPairs(t, what, files, nil, b, 50, api.ErrForm)
		wantNoPairs(t, what+", and no blob", files, slots("x", "2"), slots("y", "3"), 50, api.ErrForm)
		wantNoPairs(t, what+", and least", files, a, b, 0, api.ErrArg)
		wantPairs(t, what+", nothing is got", files, a, a, 50)
		wantPairs(t, what+", nothing is got", files, nil, nil, 50)
		wantPairs(t, what+", nothing is got", files, slots("s", "1"), slots("s", "2"), 50)
	}
	wantPairs(t, "other files beside it", []api.File{{Path: "a"}, good, {Path: "z"}}, a, b, 50, pair("a", "b", 100))
}
