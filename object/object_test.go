package object_test

import (
	"bytes"
	"crypto/sha256"
	"math"
	"math/rand"
	"reflect"
	"testing"

	"codicil/api"
	"codicil/object"
	"codicil/sha"
)

// P7.1: the header of each kind, where its count gains a digit and at both its ends.
func TestHeader(t *testing.T) {
	for k, word := range kinds() {
		for _, n := range []int{0, 1, 3, 9, 10, 99, 100, 65536, 999999, 1000000, api.MaxData - 1, api.MaxData} {
			if s, e := object.Header(k, n); s != word+" "+decimal(n)+"\x00" || e != api.OK {
				t.Errorf("Header(%d, %d): %q, error %d", k, n, s, e)
			}
		}
	}
	if s, _ := object.Header(api.Blob, 3); s != "blob 3\x00" {
		t.Errorf("Header(Blob, 3): %q", s)
	}
}

// P7.1: a header's errors, alone and both.
func TestHeaderErrors(t *testing.T) {
	wrong := func(k api.Kind, n int, wanted api.Errno) {
		t.Helper()
		if s, e := object.Header(k, n); s != "" || e != wanted {
			t.Errorf("Header(%d, %d): %q, error %d, wanted %d alone", k, n, s, e, wanted)
		}
	}
	beyond := []int{-1, -2, math.MinInt, api.MaxData + 1, 2 * api.MaxData, math.MaxInt, 1 << 32}
	for _, n := range beyond {
		for k := range kinds() {
			wrong(k, n, api.ErrArg)
		}
		for _, k := range noKinds() {
			wrong(k, n, api.ErrArg)
		}
	}
	for _, k := range noKinds() {
		wrong(k, 0, api.ErrType)
		wrong(k, 3, api.ErrType)
		wrong(k, api.MaxData, api.ErrType)
	}
}

// P7.1: ids of each kind, of no bytes and of many, in form or not, against the library's SHA-256.
func TestId(t *testing.T) {
	r := rand.New(rand.NewSource(1))
	for k, word := range kinds() {
		for _, n := range []int{0, 1, 3, 47, 48, 54, 55, 56, 57, 63, 64, 65, 1000, 65536, api.MaxData - 1, api.MaxData} {
			p := make([]byte, n)
			r.Read(p)
			id, e := object.Id(api.Object{Kind: k, Data: p})
			if wanted := sha256.Sum256(append([]byte(word+" "+decimal(n)+"\x00"), p...)); id != wanted || e != api.OK {
				t.Errorf("Id of %d bytes, kind %d: %x, error %d, wanted %x", n, k, id, e, wanted)
			}
		}
	}
}

// P7.1: ids that are known: the chapter's, and those of Git's empty blob and empty tree.
func TestKnownIds(t *testing.T) {
	id, _ := object.Id(api.Object{Kind: api.Blob, Data: []byte("abc")})
	if id != sha.Sum([]byte("blob 3\x00abc")) || digits(id) != "c1cf6e465077930e88dc5136641d402f72a229ddd996f627d60e9639eaba35a6" {
		t.Errorf("the id of abc: %x", id)
	}
	id, _ = object.Id(api.Object{Kind: api.Blob})
	if digits(id) != "473a0f4c3be8a93681a267e3b1e9a7dcda1185436fe141f7749120a303721813" {
		t.Errorf("the id of the empty blob: %x", id)
	}
	id, _ = object.Id(api.Object{Kind: api.Tree, Data: []byte{}})
	if digits(id) != "6ef19b41225c5369f1c104d45d8d85efa9b057b53b14b4b9b939dd74decc5321" {
		t.Errorf("the id of the empty tree: %x", id)
	}
}

// P7.1, P7.3: bytes that are too many and kinds that are none; of both errors the lesser one.
func TestObjectErrors(t *testing.T) {
	wrong := func(o api.Object, wanted api.Errno) {
		t.Helper()
		if id, e := object.Id(o); id != (api.Id{}) || e != wanted {
			t.Errorf("Id of %d bytes, kind %d: %x, error %d, wanted %d alone", len(o.Data), o.Kind, id, e, wanted)
		}
		wantErrno(t, "Check", object.Check(o), wanted)
		if l, e := object.Links(o); len(l) != 0 || e != wanted {
			t.Errorf("Links of %d bytes, kind %d: %v, error %d, wanted %d alone", len(o.Data), o.Kind, l, e, wanted)
		}
	}
	long := make([]byte, api.MaxData+1)
	for k := range kinds() {
		wrong(api.Object{Kind: k, Data: long}, api.ErrLong)
	}
	for _, k := range noKinds() {
		wrong(api.Object{Kind: k}, api.ErrType)
		wrong(api.Object{Kind: k, Data: []byte("abc")}, api.ErrType)
		wrong(api.Object{Kind: k, Data: long[1:]}, api.ErrType)
		wrong(api.Object{Kind: k, Data: long}, api.ErrLong)
	}
}

// link answers a link.
func link(k api.Kind, id api.Id) object.Link { return object.Link{Kind: k, Id: id} }

// wantLinks fails unless an object is in form and points to what was wanted.
func wantLinks(t *testing.T, o api.Object, wanted ...object.Link) {
	t.Helper()
	wantErrno(t, "Check", object.Check(o), api.OK)
	l, e := object.Links(o)
	if e != api.OK || len(l) != len(wanted) || len(l) > 0 && !reflect.DeepEqual(l, wanted) {
		t.Errorf("Links: %v, error %d, wanted %v", l, e, wanted)
	}
}

// P7.3: a blob has any bytes and points to nothing.
func TestBlob(t *testing.T) {
	for _, p := range [][]byte{nil, {}, {0}, []byte("tree "), bytes.Repeat([]byte{0xff}, 1000), make([]byte, api.MaxData)} {
		wantLinks(t, api.Object{Kind: api.Blob, Data: p})
	}
	p, _ := object.PutTree(files("a", "b"))
	wantLinks(t, api.Object{Kind: api.Blob, Data: p})
}

// P7.3: what a tree points to.
func TestTreeLinks(t *testing.T) {
	l := []api.Entry{entry(api.ModeFile, "a", idOf(1)), entry(api.ModeExec, "b", idOf(2)), entry(api.ModeTree, "c", idOf(3)), entry(api.ModeLink, "d", idOf(4)), entry(api.ModeTree, "e", idOf(3)), entry(api.ModeFile, "f", idOf(1)), entry(api.ModeFile, "g", api.Id{})}
	p, _ := object.PutTree(l)
	wantLinks(t, api.Object{Kind: api.Tree, Data: p}, link(api.Blob, idOf(1)), link(api.Blob, idOf(2)), link(api.Tree, idOf(3)), link(api.Blob, idOf(4)), link(api.Tree, idOf(3)), link(api.Blob, idOf(1)), link(api.Blob, api.Id{}))
	wantLinks(t, api.Object{Kind: api.Tree})
	var wanted []object.Link
	for i := range api.MaxEntries {
		wanted = append(wanted, link(api.Blob, idOf(i)))
	}
	p, _ = object.PutTree(manyFiles(api.MaxEntries))
	wantLinks(t, api.Object{Kind: api.Tree, Data: p}, wanted...)
}

// P7.3: what a commit points to: its tree, then its parents as they stand.
func TestCommitLinks(t *testing.T) {
	for _, n := range []int{0, 1, 2, api.MaxParents} {
		s := api.Snapshot{Tree: idOf(100)}
		wanted := []object.Link{{api.Tree, idOf(100)}}
		for i := range n {
			s.Parents = append(s.Parents, idOf(i/2))
			wanted = append(wanted, link(api.Commit, idOf(i/2)))
		}
		p, _ := object.PutCommit(s)
		wantLinks(t, api.Object{Kind: api.Commit, Data: p}, wanted...)
	}
}

// P7.3: what a tag points to: a target of each kind.
func TestTagLinks(t *testing.T) {
	for k := range kinds() {
		p, _ := object.PutTag(api.Label{Target: idOf(int(k)), Kind: k, Name: "v"})
		wantLinks(t, api.Object{Kind: api.Tag, Data: p}, link(k, idOf(int(k))))
	}
}

// P7.3: Check has the error of the kind's own Parse call, and Links has Check's.
func TestCheckAsParse(t *testing.T) {
	tree, _ := object.PutTree(files("a", "b"))
	commit, _ := object.PutCommit(api.Snapshot{Message: "m"})
	tag, _ := object.PutTag(api.Label{Kind: api.Blob, Name: "v", Message: "m"})
	texts := [][]byte{nil, {0}, []byte("a"), tree, commit, tag, make([]byte, api.MaxData), make([]byte, api.MaxData+1)}
	for _, p := range [][]byte{tree, commit, tag} {
		for n := range p {
			texts = append(texts, p[:n], p[n:])
		}
		texts = append(texts, append(bytes.Clone(p), p...), append(bytes.Clone(p), 0), append(bytes.Clone(p), 'x'))
	}
	for _, p := range texts {
		_, treeErrno := object.ParseTree(p)
		_, commitErrno := object.ParseCommit(p)
		_, tagErrno := object.ParseTag(p)
		for k, wanted := range map[api.Kind]api.Errno{api.Tree: treeErrno, api.Commit: commitErrno, api.Tag: tagErrno} {
			o := api.Object{Kind: k, Data: p}
			wantErrno(t, "Check", object.Check(o), wanted)
			if l, e := object.Links(o); e != wanted || e != api.OK && len(l) != 0 {
				t.Errorf("Links(%.300q), kind %d: %v, error %d, wanted %d", p, k, l, e, wanted)
			}
		}
	}
	wantErrno(t, "no commit", object.Check(api.Object{Kind: api.Commit}), api.ErrForm)
	wantErrno(t, "no tag", object.Check(api.Object{Kind: api.Tag}), api.ErrForm)
	wantErrno(t, "an empty tree", object.Check(api.Object{Kind: api.Tree}), api.OK)
}

// The rule 'Memory': Id, Check and Links leave an object as it was, and no two answers share memory.
func TestObjectMemory(t *testing.T) {
	tree, _ := object.PutTree(files("a", "b"))
	commit, _ := object.PutCommit(api.Snapshot{Parents: []api.Id{idOf(1), idOf(2)}})
	tag, _ := object.PutTag(api.Label{Kind: api.Blob, Name: "v"})
	for k, p := range map[api.Kind][]byte{api.Tree: tree, api.Commit: commit, api.Tag: tag, api.Blob: []byte("abc")} {
		o := api.Object{Kind: k, Data: roomy(string(p))}
		first, _ := object.Id(o)
		object.Check(o)
		links, _ := object.Links(o)
		again, _ := object.Links(o)
		wantRoomy(t, "a call", o.Data, string(p))
		for i := range again[:cap(again)] {
			again[:cap(again)][i] = object.Link{Kind: 9}
		}
		if l, _ := object.Links(o); len(l) != len(links) || len(l) > 0 && !reflect.DeepEqual(l, links) {
			t.Errorf("two answers of Links share memory, kind %d", k)
		}
		if second, _ := object.Id(o); first != second {
			t.Errorf("the id of kind %d is another one at the second time", k)
		}
		scratch(o.Data)
		if l, _ := object.Links(api.Object{Kind: k, Data: p}); len(l) != len(links) || len(l) > 0 && !reflect.DeepEqual(l, links) {
			t.Errorf("Links' answer shares memory with the object, kind %d", k)
		}
	}
	a, _ := object.Header(api.Blob, 3)
	b, _ := object.Header(api.Blob, 3)
	wantApart(t, a, b)
}
