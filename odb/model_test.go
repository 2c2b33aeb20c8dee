package odb_test

import (
	"bytes"
	"encoding/hex"
	"maps"
	"math/rand"
	"regexp"
	"slices"
	"strconv"
	"testing"

	"codicil/api"
	"codicil/loose"
	"codicil/odb"
	"codicil/pack"
	"codicil/packidx"
	"codicil/txfile"
)

// state is files by paths.
type state map[string][]byte

// stateOf answers files as a state.
func stateOf(files []api.File) state {
	s := state{}
	for _, f := range files {
		s[f.Path] = f.Data
	}
	return s
}

// files answers a state as files.
func (s state) files() []api.File {
	var files []api.File
	for _, path := range slices.Sorted(maps.Keys(s)) {
		files = append(files, api.File{Path: path, Data: s[path]})
	}
	return files
}

// packs answers by the chapter's words the paths of pack files and of their indices.
func (s state) packs() [][2]string {
	form := regexp.MustCompile(`^objects/pack/([^/]+)\.pack$`)
	var list [][2]string
	for _, path := range slices.Sorted(maps.Keys(s)) {
		if m := form.FindStringSubmatch(path); m != nil {
			list = append(list, [2]string{path, "objects/pack/" + m[1] + ".idx"})
		}
	}
	return list
}

// plainGet answers by the chapter's words the object of an id.
func (s state) plainGet(id api.Id) (api.Object, api.Errno) {
	if _, there := s[placeOf(id)]; there {
		return loose.Get(s.files(), id)
	}
	for _, paths := range s.packs() {
		index, there := s[paths[1]]
		if !there {
			continue
		}
		row, e := packidx.Find(index, id)
		if e != api.OK {
			continue
		}
		found, e := pack.Read(s[paths[0]])
		if e != api.OK {
			return api.Object{}, e
		}
		for _, x := range found {
			if uint64(x.At) == row.At && x.Id == id {
				return x.Object, api.OK
			}
		}
		return api.Object{}, api.ErrSum
	}
	return api.Object{}, api.ErrNone
}

// plainIds answers by the chapter's words all ids.
func (s state) plainIds() []api.Id {
	ids, _ := loose.Ids(s.files())
	for _, paths := range s.packs() {
		rows, _, e := packidx.Parse(s[paths[1]])
		for _, row := range rows {
			if e == api.OK {
				ids = append(ids, row.Id)
			}
		}
	}
	return rising(ids)
}

// plainPut answers by the chapter's words the state in which objects are there.
func (s state) plainPut(list []api.Object) state {
	behind := maps.Clone(s)
	for _, o := range list {
		if !slices.Contains(behind.plainIds(), idOf(o)) {
			behind[placeOf(idOf(o))], _ = loose.Pack(o)
		}
	}
	return behind
}

// plainRepack answers by the chapter's words the state in which just the objects of keep are there.
func (s state) plainRepack(keep []api.Id) (state, api.Errno) {
	behind := state{}
	for path, data := range s {
		if len(path) < 8 || path[:8] != "objects/" {
			behind[path] = data
		}
	}
	var items []pack.Item
	for _, id := range s.plainIds() {
		if slices.Contains(keep, id) {
			o, e := s.plainGet(id)
			if e != api.OK {
				return nil, e
			}
			items = append(items, pack.Item{Kind: int(o.Kind), Data: o.Data})
		}
	}
	if len(items) > 0 {
		p, _ := pack.Write(items, 2)
		name := "objects/pack/pack-" + hex.EncodeToString(p[len(p)-32:])
		behind[name+".pack"], behind[name+".idx"] = p, indexed(rowsOf(p), p)
	}
	return behind, api.OK
}

// changesTo answers the changes between two states, by paths.
func (s state) changesTo(behind state) []txfile.Change {
	var list []txfile.Change
	for path := range s {
		if _, stays := behind[path]; !stays {
			list = append(list, gone(path))
		}
	}
	for path, data := range behind {
		if was, stood := s[path]; !stood || !bytes.Equal(was, data) {
			list = append(list, txfile.Change{Path: path, Data: data})
		}
	}
	return byPaths(list)
}

// anyObject answers one of a few objects, by chance.
func anyObject(r *rand.Rand) api.Object {
	return object(api.Kind(1+r.Intn(4)), []string{"", "a", "b", "abc", "a\x00b", "long long long long long"}[r.Intn(6)])
}

// someObjects answers so many at most, each once.
func someObjects(r *rand.Rand, most int) []api.Object {
	known := map[api.Id]bool{}
	var list []api.Object
	for range r.Intn(most + 1) {
		if o := anyObject(r); !known[idOf(o)] {
			known[idOf(o)] = true
			list = append(list, o)
		}
	}
	return list
}

// turned answers bytes of which some are others, or some are less or more, by chance.
func turned(r *rand.Rand, p []byte) []byte {
	p = bytes.Clone(p)
	switch r.Intn(3) {
	case 0:
		return p[:r.Intn(len(p)+1)]
	case 1:
		return append(p, byte(r.Intn(256)))
	}
	if len(p) > 0 {
		p[r.Intn(len(p))] ^= 1 << r.Intn(8)
	}
	return p
}

// anyState answers files by chance, many of them right and some not.
func anyState(r *rand.Rand) state {
	s := stateOf(own(someObjects(r, 5)...))
	for i := range r.Intn(4) {
		name := []string{"a", "b", "a-b", "a.pack", "pack-" + strconv.Itoa(i)}[r.Intn(5)]
		p := packed(someObjects(r, 6)...)
		rows := rowsOf(p)
		if len(rows) > 0 && r.Intn(6) == 0 {
			rows[r.Intn(len(rows))].At = rows[r.Intn(len(rows))].At + uint64(r.Intn(2))
		}
		maps.Copy(s, stateOf(named(name, p, indexed(rows, p))))
	}
	for _, path := range slices.Sorted(maps.Keys(s)) {
		switch r.Intn(20) {
		case 0:
			delete(s, path)
		case 1:
			s[path] = turned(r, s[path])
		}
	}
	for _, path := range []string{"a", "objects", "objects/x", "objects/pack/x", "objects/pack/x.idx", "work/objects/x", "objects0"} {
		if r.Intn(6) == 0 {
			s[path] = []byte(path)
		}
	}
	return s
}

// allIds are those of the objects that anyObject answers, and a few more.
func allIds() []api.Id {
	ids := []api.Id{{}, {1}, {255}}
	for kind := api.Commit; kind <= api.Tag; kind++ {
		for _, text := range []string{"", "a", "b", "abc", "a\x00b", "long long long long long"} {
			ids = append(ids, idOf(object(kind, text)))
		}
	}
	return ids
}

// wantPlainGet fails unless Get answers of each id what the plain model does, and an object has its id (P4).
func wantPlainGet(t *testing.T, s state) {
	t.Helper()
	files := s.files()
	for _, id := range allIds() {
		wanted, we := s.plainGet(id)
		o, e := odb.Get(files, id)
		if e != we || o.Kind != wanted.Kind || !bytes.Equal(o.Data, wanted.Data) {
			t.Fatalf("Get(%x): the kind %d, %q, error %d, wanted the kind %d, %q, error %d", id, o.Kind, o.Data, e, wanted.Kind, wanted.Data, we)
		}
		if e == api.OK && idOf(o) != id {
			t.Fatalf("Get(%x) answers an object of another id", id)
		}
	}
}

// wantPlainRepack fails unless Repack answers the changes that the plain model wants, and P14.4 holds; it answers Repack's error.
func wantPlainRepack(t *testing.T, s state, keep []api.Id) api.Errno {
	t.Helper()
	files := s.files()
	behind, e := s.plainRepack(keep)
	if e != api.OK {
		wantNoRepack(t, "by chance", files, keep, e)
		return e
	}
	made := wantRepack(t, "by chance", files, keep, s.changesTo(behind)...)
	if !sameFiles(made, behind.files()) {
		t.Fatal("Made answers other files")
	}
	known := s.plainIds()
	kept := slices.DeleteFunc(rising(keep), func(id api.Id) bool { return !slices.Contains(known, id) })
	wantIds(t, "behind Repack", made, kept...)
	for _, id := range kept {
		was, _ := odb.Get(files, id)
		if o, e := odb.Get(made, id); e != api.OK || o.Kind != was.Kind || !bytes.Equal(o.Data, was.Data) {
			t.Fatalf("behind Repack Get(%x) answers another object, error %d", id, e)
		}
	}
	return api.OK
}

// P14.1 to P14.4, P8: files by chance, against the plain model; the same files answer the same again (P2).
func TestByChance(t *testing.T) {
	r := rand.New(rand.NewSource(14))
	ends := map[api.Errno]int{}
	for range 1500 {
		s := anyState(r)
		files := s.files()
		wantPlainGet(t, s)
		wantIds(t, "by chance", files, s.plainIds()...)
		var list []api.Object
		for range r.Intn(6) {
			list = append(list, anyObject(r))
		}
		wantPut(t, "by chance", files, list, s.changesTo(s.plainPut(list))...)
		var keep []api.Id
		for _, id := range allIds() {
			for range r.Intn(3) {
				keep = append(keep, id)
			}
		}
		r.Shuffle(len(keep), func(i, j int) { keep[i], keep[j] = keep[j], keep[i] })
		ends[wantPlainRepack(t, s, keep)]++
	}
	if ends[api.OK] < 300 || len(ends) < 4 {
		t.Errorf("too little was tried: %v", ends)
	}
}

// P14.3: changes by chance, against a map.
func TestMadeByChance(t *testing.T) {
	r := rand.New(rand.NewSource(15))
	all := []string{"a", "a.b", "a/b", "a/b/c", "a0", "b", "c/d", "objects/x", "\xff"}
	for range 3000 {
		s, behind := state{}, state{}
		for _, path := range all {
			if r.Intn(2) == 0 {
				s[path] = []byte(strconv.Itoa(r.Intn(9)))
			}
		}
		maps.Copy(behind, s)
		var list []txfile.Change
		for _, i := range r.Perm(len(all))[:r.Intn(len(all)+1)] {
			c := txfile.Change{Path: all[i], Data: []byte(strconv.Itoa(r.Intn(9))), Gone: r.Intn(2) == 0}
			list = append(list, c)
			if delete(behind, c.Path); !c.Gone {
				behind[c.Path] = c.Data
			}
		}
		if got := made(t, s.files(), list); !sameFiles(got, behind.files()) {
			t.Fatalf("Made(%q, %q): %q", s.files(), paths(list), got)
		}
	}
}
