package loose_test

import (
	"bytes"
	stdzlib "compress/zlib"
	"crypto/sha256"
	"encoding/hex"
	"math/rand"
	"strconv"
	"testing"

	"codicil/api"
	"codicil/loose"
	"codicil/zlib"
)

// words are those of the kinds.
func words() map[api.Kind]string {
	return map[api.Kind]string{api.Commit: "commit", api.Tree: "tree", api.Blob: "blob", api.Tag: "tag"}
}

// blob answers a blob.
func blob(text string) api.Object { return api.Object{Kind: api.Blob, Data: []byte(text)} }

// headed answers an object's header and its bytes.
func headed(o api.Object) []byte {
	return append([]byte(words()[o.Kind]+" "+strconv.Itoa(len(o.Data))+"\x00"), o.Data...)
}

// idOf answers the id of an object.
func idOf(o api.Object) api.Id { return sha256.Sum256(headed(o)) }

// placeOf answers the place of an id.
func placeOf(id api.Id) string {
	return "objects/" + hex.EncodeToString(id[:1]) + "/" + hex.EncodeToString(id[1:])
}

// wrap answers bytes as the project wraps them.
func wrap(t *testing.T, p []byte, way int) []byte {
	t.Helper()
	s, e := zlib.Wrap(p, way)
	if e != api.OK {
		t.Fatalf("Wrap of %d bytes: error %d", len(p), e)
	}
	return s
}

// squeezed answers bytes as the library wraps them at that level.
func squeezed(p []byte, level int) []byte {
	var b bytes.Buffer
	w, _ := stdzlib.NewWriterLevel(&b, level)
	w.Write(p)
	w.Close()
	return b.Bytes()
}

// pack answers what Pack does, and fails if there is an error.
func pack(t *testing.T, o api.Object) []byte {
	t.Helper()
	p, e := loose.Pack(o)
	if e != api.OK {
		t.Fatalf("Pack of the kind %d, %d bytes: error %d", o.Kind, len(o.Data), e)
	}
	return p
}

// noise answers n bytes by chance, of so many kinds.
func noise(seed int64, n, kinds int) []byte {
	r := rand.New(rand.NewSource(seed))
	p := make([]byte, n)
	for i := range p {
		p[i] = byte(r.Intn(kinds))
	}
	return p
}

// file answers a file.
func file(path string, data []byte) api.File { return api.File{Path: path, Data: data} }

// samples are objects of each kind, with bytes in form and others.
func samples() []api.Object {
	var list []api.Object
	for kind := api.Commit; kind <= api.Tag; kind++ {
		for _, data := range [][]byte{nil, {}, []byte("abc"), {0}, []byte("\x00blob 3\x00abc"), noise(1, 9, 256), noise(2, 10, 3), noise(3, 5000, 4), noise(4, 70000, 256)} {
			list = append(list, api.Object{Kind: kind, Data: data})
		}
	}
	return list
}

// wantObject fails unless that object was answered.
func wantObject(t *testing.T, what string, got api.Object, e api.Errno, wanted api.Object) {
	t.Helper()
	if e != api.OK || got.Kind != wanted.Kind || !bytes.Equal(got.Data, wanted.Data) {
		t.Errorf("%s: the kind %d, %d bytes %.50q, error %d, wanted the kind %d, %d bytes", what, got.Kind, len(got.Data), got.Data, e, wanted.Kind, len(wanted.Data))
	}
}

// wantNone fails unless that error was answered, and nothing beside it.
func wantNone(t *testing.T, what string, got api.Object, e, wanted api.Errno) {
	t.Helper()
	if e != wanted || got.Kind != 0 || len(got.Data) != 0 {
		t.Errorf("%s: the kind %d, %d bytes, error %d, wanted error %d alone", what, got.Kind, len(got.Data), e, wanted)
	}
}

// wantNoOpen fails unless Open answers that error alone.
func wantNoOpen(t *testing.T, what string, p []byte, wanted api.Errno) {
	t.Helper()
	o, e := loose.Open(p)
	wantNone(t, "Open of "+what, o, e, wanted)
}

// wantIds fails unless these ids were answered.
func wantIds(t *testing.T, what string, got []api.Id, e api.Errno, wanted ...api.Id) {
	t.Helper()
	if e != api.OK || len(got) != len(wanted) {
		t.Errorf("%s: %d ids, error %d, wanted %d", what, len(got), e, len(wanted))
		return
	}
	for i := range got {
		if got[i] != wanted[i] {
			t.Errorf("%s: the id %d is %x, wanted %x", what, i, got[i], wanted[i])
		}
	}
}

// outOfOrder are lists of files that are not in order; good stands in each.
func outOfOrder(good api.File) map[string][]api.File {
	before, behind := file("a", []byte("x")), file("z", []byte("y"))
	return map[string][]api.File{
		"files that fall":                        {behind, good},
		"files that fall behind":                 {good, before},
		"files that fall at the end":             {before, good, behind, before},
		"one path twice":                         {good, good},
		"one path twice behind":                  {good, behind, behind},
		"an empty path":                          {file("", nil), good},
		"a path with an empty part":              {good, file("x//y", nil)},
		"a path that ends with /":                {good, file("x/", nil)},
		"a path with a dot":                      {file("./a", nil), good},
		"a path with .git":                       {file(".Git", nil), good},
		"a path with a byte 0":                   {good, file("x\x00", nil)},
		"a path that is too long":                {good, file("x/"+string(bytes.Repeat([]byte("abc/"), 49))+"abc", nil)},
		"a place that is twice, with an / ahead": {file("/"+good.Path, good.Data), good},
	}
}

// roomy answers the bytes with spare room that isn't 0.
func roomy(p []byte) []byte {
	q := append(bytes.Clone(p), bytes.Repeat([]byte{0xa5}, 300)...)
	return q[:len(p):len(q)]
}

// wantRoomy fails if bytes made by roomy were changed, or their spare room.
func wantRoomy(t *testing.T, what string, p, was []byte) {
	t.Helper()
	if !bytes.Equal(p, was) || len(bytes.Trim(p[len(p):cap(p)], "\xa5")) != 0 {
		t.Errorf("%s changes its argument", what)
	}
}

// scratch writes over bytes and their spare room.
func scratch(p []byte) {
	p = p[:cap(p)]
	for i := range p {
		p[i] = 0x5a
	}
}
