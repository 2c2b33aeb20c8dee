package odb_test

import (
	"bytes"
	"crypto/sha256"
	"encoding/hex"
	"slices"
	"strconv"
	"strings"
	"testing"

	"codicil/api"
	"codicil/loose"
	"codicil/odb"
	"codicil/pack"
	"codicil/packidx"
	"codicil/txfile"
)

// object and blob answer an object.
func object(kind api.Kind, text string) api.Object { return api.Object{Kind: kind, Data: []byte(text)} }

func blob(text string) api.Object { return object(api.Blob, text) }

// blobs answers blobs of these texts.
func blobs(texts ...string) []api.Object {
	var list []api.Object
	for _, text := range texts {
		list = append(list, blob(text))
	}
	return list
}

// idOf answers the id of an object.
func idOf(o api.Object) api.Id {
	word := []string{"", "commit", "tree", "blob", "tag"}[o.Kind]
	return sha256.Sum256(append([]byte(word+" "+strconv.Itoa(len(o.Data))+"\x00"), o.Data...))
}

// blobId answers the id of a blob.
func blobId(text string) api.Id { return idOf(blob(text)) }

// idsOf answers the ids of objects, in their order; rising, by ids.
func idsOf(list ...api.Object) []api.Id {
	var ids []api.Id
	for _, o := range list {
		ids = append(ids, idOf(o))
	}
	return ids
}

func rising(ids []api.Id) []api.Id {
	sorted := slices.Clone(ids)
	slices.SortFunc(sorted, func(a, b api.Id) int { return bytes.Compare(a[:], b[:]) })
	return slices.Compact(sorted)
}

// placeOf answers the place of an id.
func placeOf(id api.Id) string {
	return "objects/" + hex.EncodeToString(id[:1]) + "/" + hex.EncodeToString(id[1:])
}

// file answers a file.
func file(path, data string) api.File { return api.File{Path: path, Data: []byte(data)} }

// join answers lists of files as one, by paths.
func join(lists ...[]api.File) []api.File {
	files := slices.Concat(lists...)
	slices.SortFunc(files, func(a, b api.File) int { return strings.Compare(a.Path, b.Path) })
	return files
}

// own answers files of their own for objects.
func own(list ...api.Object) []api.File {
	var files []api.File
	for _, o := range list {
		p, e := loose.Pack(o)
		if e != api.OK {
			panic("Pack: error " + strconv.Itoa(int(e)))
		}
		files = append(files, api.File{Path: placeOf(idOf(o)), Data: p})
	}
	return join(files)
}

// packed answers a pack of objects, in their order.
func packed(list ...api.Object) []byte {
	var items []pack.Item
	for _, o := range list {
		items = append(items, pack.Item{Kind: int(o.Kind), Data: o.Data})
	}
	p, e := pack.Write(items, 2)
	if e != api.OK {
		panic("Write: error " + strconv.Itoa(int(e)))
	}
	return p
}

// rowsOf answers the rows of a pack, in its order.
func rowsOf(p []byte) []packidx.Row {
	found, e := pack.Read(p)
	if e != api.OK {
		panic("Read: error " + strconv.Itoa(int(e)))
	}
	var rows []packidx.Row
	for _, x := range found {
		rows = append(rows, packidx.Row{Id: x.Id, Crc: x.Crc, At: uint64(x.At)})
	}
	return rows
}

// indexed answers an index of rows for a pack.
func indexed(rows []packidx.Row, p []byte) []byte {
	x, e := packidx.Build(rows, api.Id(p[len(p)-32:]))
	if e != api.OK {
		panic("Build: error " + strconv.Itoa(int(e)))
	}
	return x
}

// named answers the two files of a pack of that name; without an index, where that is nil.
func named(name string, p, index []byte) []api.File {
	var files []api.File
	if index != nil {
		files = append(files, api.File{Path: "objects/pack/" + name + ".idx", Data: index})
	}
	return append(files, api.File{Path: "objects/pack/" + name + ".pack", Data: p})
}

// inPack answers the two files of a pack of objects, with that name.
func inPack(name string, list ...api.Object) []api.File {
	p := packed(list...)
	return named(name, p, indexed(rowsOf(p), p))
}

// sealedPack answers the two files that Repack makes of objects.
func sealedPack(list ...api.Object) []api.File {
	sorted := slices.Clone(list)
	slices.SortFunc(sorted, func(a, b api.Object) int {
		x, y := idOf(a), idOf(b)
		return bytes.Compare(x[:], y[:])
	})
	p := packed(sorted...)
	return inPack("pack-"+hex.EncodeToString(p[len(p)-32:]), sorted...)
}

// has and gone answer a change, changes a list of those by which files come.
func has(f api.File) txfile.Change { return txfile.Change{Path: f.Path, Data: f.Data} }

func gone(path string) txfile.Change { return txfile.Change{Path: path, Gone: true} }

func changes(files ...api.File) []txfile.Change {
	var list []txfile.Change
	for _, f := range files {
		list = append(list, has(f))
	}
	return list
}

// byPaths answers changes by paths.
func byPaths(lists ...[]txfile.Change) []txfile.Change {
	list := slices.Concat(lists...)
	slices.SortFunc(list, func(a, b txfile.Change) int { return strings.Compare(a.Path, b.Path) })
	return list
}

// allGone answers changes by which all these files are gone.
func allGone(files ...api.File) []txfile.Change {
	var list []txfile.Change
	for _, f := range files {
		list = append(list, gone(f.Path))
	}
	return list
}

// wantObject fails unless Get answers that object.
func wantObject(t *testing.T, what string, files []api.File, wanted api.Object) {
	t.Helper()
	o, e := odb.Get(files, idOf(wanted))
	if e != api.OK || o.Kind != wanted.Kind || !bytes.Equal(o.Data, wanted.Data) {
		t.Errorf("Get, %s: the kind %d, %.50q, error %d, wanted the kind %d, %.50q", what, o.Kind, o.Data, e, wanted.Kind, wanted.Data)
	}
}

// wantNoObject fails unless Get answers that error alone.
func wantNoObject(t *testing.T, what string, files []api.File, id api.Id, wanted api.Errno) {
	t.Helper()
	if o, e := odb.Get(files, id); e != wanted || o.Kind != 0 || len(o.Data) != 0 {
		t.Errorf("Get, %s: the kind %d, %.50q, error %d, wanted error %d alone", what, o.Kind, o.Data, e, wanted)
	}
}

// wantIds fails unless Ids answers these, each once and rising.
func wantIds(t *testing.T, what string, files []api.File, wanted ...api.Id) {
	t.Helper()
	if ids, e := odb.Ids(files); e != api.OK || !slices.Equal(ids, rising(wanted)) {
		t.Errorf("Ids, %s: %.100x, error %d, wanted %.100x", what, ids, e, rising(wanted))
	}
}

// sameChanges and sameFiles answer whether two lists are the same.
func sameChanges(a, b []txfile.Change) bool {
	return slices.EqualFunc(a, b, func(x, y txfile.Change) bool {
		return x.Path == y.Path && x.Gone == y.Gone && bytes.Equal(x.Data, y.Data)
	})
}

func sameFiles(a, b []api.File) bool {
	return slices.EqualFunc(a, b, func(x, y api.File) bool { return x.Path == y.Path && bytes.Equal(x.Data, y.Data) })
}

// wantRepack fails unless Repack answers these changes; it answers the files behind them.
func wantRepack(t *testing.T, what string, files []api.File, keep []api.Id, wanted ...txfile.Change) []api.File {
	t.Helper()
	list, e := odb.Repack(files, keep)
	if e != api.OK || !sameChanges(list, wanted) {
		t.Fatalf("Repack, %s: %.300q, error %d, wanted %.300q", what, paths(list), e, paths(wanted))
	}
	return made(t, files, list)
}

// wantNoRepack fails unless Repack answers that error alone.
func wantNoRepack(t *testing.T, what string, files []api.File, keep []api.Id, wanted api.Errno) {
	t.Helper()
	if list, e := odb.Repack(files, keep); len(list) != 0 || e != wanted {
		t.Errorf("Repack, %s: %d changes, error %d, wanted error %d alone", what, len(list), e, wanted)
	}
}

// wantPut fails unless Put answers these changes and ids; it answers the files behind them.
func wantPut(t *testing.T, what string, files []api.File, list []api.Object, wanted ...txfile.Change) []api.File {
	t.Helper()
	found, ids, e := odb.Put(files, list)
	if e != api.OK || !sameChanges(found, wanted) || !slices.Equal(ids, idsOf(list...)) {
		t.Fatalf("Put, %s: %.300q, %d ids, error %d, wanted %.300q", what, paths(found), len(ids), e, paths(wanted))
	}
	return made(t, files, found)
}

// made answers the files behind changes, and fails if there is an error.
func made(t *testing.T, files []api.File, list []txfile.Change) []api.File {
	t.Helper()
	behind, e := odb.Made(files, list)
	if e != api.OK {
		t.Fatalf("Made: error %d", e)
	}
	return behind
}

// paths answers the paths of changes.
func paths(list []txfile.Change) []string {
	var all []string
	for _, c := range list {
		path := c.Path
		if c.Gone {
			path += " (gone)"
		}
		all = append(all, path)
	}
	return all
}

// outOfOrder are lists of files that are not in order; good stands in each.
func outOfOrder(good api.File) map[string][]api.File {
	before, behind := file("a", "x"), file("z", "y")
	return map[string][]api.File{
		"files that fall":            {behind, good},
		"files that fall behind":     {good, before},
		"files that fall at the end": {before, good, behind, before},
		"one path twice":             {good, good},
		"one path twice behind":      {good, behind, behind},
		"an empty path":              {file("", ""), good},
		"a path with an empty part":  {good, file("x//y", "")},
		"a path with ..":             {good, file("x/../y", "")},
		"a path with .git":           {file(".Git/x", ""), good},
		"a path with a byte 0":       {good, file("x\x00", "")},
		"a path that is too long":    {good, file("x/"+strings.Repeat("abc/", 49)+"abc", "")},
	}
}

// roomy answers the bytes with spare room that isn't 0.
func roomy(p []byte) []byte {
	q := append(bytes.Clone(p), bytes.Repeat([]byte{0xa5}, 300)...)
	return q[:len(p):len(q)]
}

// wantRoomy fails if bytes made by roomy were changed, or their spare room.
func wantRoomy(t *testing.T, what string, p, was []byte) {
	t.Helper()
	if !bytes.Equal(p, was) || len(bytes.Trim(p[len(p):cap(p)], "\xa5")) != 0 {
		t.Errorf("%s changes its argument", what)
	}
}

// scratch writes over bytes and their spare room.
func scratch(p []byte) {
	p = p[:cap(p)]
	for i := range p {
		p[i] = 0x5a
	}
}
