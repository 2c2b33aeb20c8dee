package maint_test

import (
	"bytes"
	"crypto/sha256"
	"fmt"
	"maps"
	"slices"
	"strconv"
	"strings"
	"testing"

	"codicil/api"
	"codicil/index"
	"codicil/maint"
	"codicil/object"
	"codicil/odb"
	"codicil/refs"
	"codicil/reftable"
	"codicil/repo"
	"codicil/seq"
	"codicil/trees"
)

const mainName = "refs/heads/main"

// me is an ident at a time.
func me(time int) api.Ident { return api.Ident{Name: "A B", Email: "a@b", Time: time, Zone: 60} }

// digits answers an id in digits.
func digits(id api.Id) string { return fmt.Sprintf("%x", id[:]) }

// place answers the path of an object's own file.
func place(id api.Id) string { return "objects/" + digits(id)[:2] + "/" + digits(id)[2:] }

// made answers an object whose bytes have no error.
func made(k api.Kind, p []byte, e api.Errno) api.Object {
	if e != api.OK {
		panic(fmt.Sprintf("an object of the kind %d: error %d", k, e))
	}
	return api.Object{Kind: k, Data: p}
}

func blob(text string) api.Object { return api.Object{Kind: api.Blob, Data: []byte(text)} }

func tree(list ...api.Entry) api.Object {
	p, e := object.PutTree(list)
	return made(api.Tree, p, e)
}

func commit(root api.Id, parents ...api.Id) api.Object {
	p, e := object.PutCommit(api.Snapshot{Tree: root, Parents: parents, Author: me(1), Committer: me(1), Message: "m"})
	return made(api.Commit, p, e)
}

func tag(k api.Kind, target api.Id) api.Object {
	p, e := object.PutTag(api.Label{Target: target, Kind: k, Name: "t", Tagger: me(1), Message: "m"})
	return made(api.Tag, p, e)
}

// idOf answers the id of an object.
func idOf(o api.Object) api.Id {
	word := []string{"", "commit", "tree", "blob", "tag"}[o.Kind]
	return sha256.Sum256(append([]byte(word+" "+strconv.Itoa(len(o.Data))+"\x00"), o.Data...))
}

// rising answers ids in order, each once, without the one that is all 0.
func rising(list ...api.Id) []api.Id {
	list = slices.Clone(list)
	slices.SortFunc(list, func(a, b api.Id) int { return bytes.Compare(a[:], b[:]) })
	return slices.DeleteFunc(slices.Compact(list), func(id api.Id) bool { return id == api.Id{} })
}

// patched answers files of which some are others: those of nil bytes are gone.
func patched(files []api.File, with map[string][]byte) []api.File {
	all := map[string][]byte{}
	for _, f := range files {
		all[f.Path] = f.Data
	}
	for path, data := range with {
		if data == nil {
			delete(all, path)
		} else {
			all[path] = data
		}
	}
	var list []api.File
	for _, path := range slices.Sorted(maps.Keys(all)) {
		list = append(list, api.File{Path: path, Data: all[path]})
	}
	return list
}

// having answers files with one more, or another one, without files with one less.
func having(files []api.File, path string, data []byte) []api.File {
	return patched(files, map[string][]byte{path: append([]byte{}, data...)})
}

func without(files []api.File, path string) []api.File {
	return patched(files, map[string][]byte{path: nil})
}

// dataOf answers the bytes of a file.
func dataOf(files []api.File, path string) []byte {
	for _, f := range files {
		if f.Path == path {
			return bytes.Clone(f.Data)
		}
	}
	return nil
}

// turned answers files with a byte of one turned; a place below 0 counts from its end.
func turned(files []api.File, path string, at int) []api.File {
	p := dataOf(files, path)
	if at < 0 {
		at += len(p)
	}
	p[at] ^= 1
	return having(files, path, p)
}

// stored answers files with objects.
func stored(files []api.File, list ...api.Object) []api.File {
	changes, _, e := odb.Put(files, list)
	if e != api.OK {
		panic(fmt.Sprintf("odb.Put: error %d", e))
	}
	files, _ = odb.Made(files, changes)
	return files
}

// referring answers files with a reference; one with neither Id nor Target is gone.
func referring(files []api.File, r api.Ref) []api.File { return referringAt(files, r, 3) }

// referringAt does so at a time.
func referringAt(files []api.File, r api.Ref, time int) []api.File {
	changes, e := refs.Update(files, []refs.Edit{{Ref: r, Any: true}}, me(time), "by hand")
	if e != api.OK {
		panic(fmt.Sprintf("refs.Update: error %d", e))
	}
	files, _ = odb.Made(files, changes)
	return files
}

// indexed answers files whose index has slots.
func indexed(files []api.File, l ...api.Slot) []api.File {
	p, e := index.Put(l)
	if e != api.OK {
		panic(fmt.Sprintf("index.Put: error %d", e))
	}
	return having(files, "index", p)
}

// file answers a slot of a text at a stage.
func file(path, text string, stage int) api.Slot {
	return api.Slot{Path: path, Stage: stage, Mode: api.ModeFile, Id: idOf(blob(text))}
}

// seqText answers the bytes of the file seq.
func seqText(word string, ids ...api.Id) []byte {
	text := word + "\n"
	for _, id := range ids {
		text += digits(id) + "\n"
	}
	return []byte(text)
}

// packedUp answers files whose objects stand in one pack, and the paths of the pack and of its index.
func packedUp(files []api.File) ([]api.File, string, string) {
	ids, _ := odb.Ids(files)
	changes, e := odb.Repack(files, ids)
	if e != api.OK {
		panic(fmt.Sprintf("odb.Repack: error %d", e))
	}
	files, _ = odb.Made(files, changes)
	for _, f := range files {
		if strings.HasSuffix(f.Path, ".pack") {
			return files, f.Path, strings.TrimSuffix(f.Path, ".pack") + ".idx"
		}
	}
	return files, "", ""
}

// begun answers the files of Init.
func begun() []api.File {
	files, e := repo.Init(me(1))
	if e != api.OK {
		panic(fmt.Sprintf("repo.Init: error %d", e))
	}
	return files
}

// history is a repository that commands have made, with what it has of each kind.
type history struct {
	files []api.File
	time  int
}

// who answers who does the next thing.
func (h *history) who() api.Ident {
	h.time++
	return me(h.time)
}

// take takes files, which have no error.
func (h *history) take(files []api.File, e api.Errno) {
	if e != api.OK {
		panic(fmt.Sprintf("error %d", e))
	}
	h.files = files
}

// save commits a text at a path, and answers the commit.
func (h *history) save(path, text string) api.Id {
	h.take(repo.Write(h.files, path, []byte(text)))
	h.take(repo.Add(h.files, path, h.time))
	files, id, e := repo.Commit(h.files, h.who(), path)
	h.take(files, e)
	return id
}

// rich answers a repository with branches, a merge that stopped, a stash, commits that nobody needs, and notes of references
// that are gone; and the merge's other side.
func rich() ([]api.File, api.Id) {
	h := &history{files: begun()}
	one := h.save("a", "1\n")
	h.take(repo.Branch(h.files, "b", one, h.who()))
	h.take(repo.Branch(h.files, "gone", one, h.who()))
	h.save("d/e", "x")
	h.save("d/f", "y")
	h.take(repo.Reset(h.files, 2, one, h.who()))
	two := h.save("a", "2\n")
	h.take(repo.Switch(h.files, "b", h.who()))
	three := h.save("a", "3\n")
	h.take(repo.Write(h.files, "a", []byte("stashed\n")))
	h.take(seq.Stash(h.files, h.who()))
	h.take(repo.Write(h.files, "a", []byte("stashed, too\n")))
	h.take(seq.Stash(h.files, h.who()))
	h.files = referringAt(h.files, api.Ref{Name: "refs/heads/gone"}, h.time)
	h.files = stored(h.files, blob("nobody's"))
	files, done, e := seq.Merge(h.files, two, h.who())
	if done || e != api.OK || three == (api.Id{}) {
		panic("the merge doesn't stop")
	}
	return files, two
}

// sameFiles answers whether two lists are the same.
func sameFiles(a, b []api.File) bool {
	return slices.EqualFunc(a, b, func(x, y api.File) bool { return x.Path == y.Path && bytes.Equal(x.Data, y.Data) })
}

// wantRoots fails unless Roots answers what the chapter's words do; it answers that.
func wantRoots(t *testing.T, what string, files []api.File) ([]api.Id, api.Errno) {
	t.Helper()
	got, e := maint.Roots(files)
	wanted, errno := plainRoots(files)
	if e != errno || !slices.Equal(got, wanted) {
		t.Fatalf("%s: Roots is %x, error %d, wanted %x, error %d", what, got, e, wanted, errno)
	}
	return got, e
}

// wantReach fails unless Reach answers what the chapter's words do; it answers that.
func wantReach(t *testing.T, what string, files []api.File, from ...api.Id) ([]api.Id, api.Errno) {
	t.Helper()
	got, e := maint.Reach(files, from)
	wanted, errno := plainReach(files, from)
	if e != errno || !slices.Equal(got, wanted) {
		t.Fatalf("%s: Reach is %d ids, error %d, wanted %d, error %d", what, len(got), e, len(wanted), errno)
	}
	return got, e
}

// wantGc fails unless Gc answers what the chapter's words do, and leaves what they say; it answers the files.
func wantGc(t *testing.T, what string, files []api.File, now, keep int) ([]api.File, api.Errno) {
	t.Helper()
	got, e := maint.Gc(files, now, keep)
	wanted, errno := plainGc(files, now, keep)
	if e != errno || !sameFiles(got, wanted) {
		t.Fatalf("%s: Gc(%d, %d) is %d files, error %d, wanted %d, error %d", what, now, keep, len(got), e, len(wanted), errno)
	}
	if e == api.OK {
		wantLeft(t, what, files, got, now-keep)
	}
	return got, e
}

// wantLeft fails unless references, notes that aren't old, index, worktree and seq are as they were, and just the objects
// that can be reached are there, as they were: P26.3.
func wantLeft(t *testing.T, what string, was, is []api.File, before int) {
	t.Helper()
	a, _ := refs.List(was)
	b, e := refs.List(is)
	if e != api.OK || !slices.Equal(a, b) {
		t.Fatalf("%s: the references are %v, error %d, they were %v", what, b, e, a)
	}
	old, _ := refs.AllNotes(was)
	old = slices.DeleteFunc(old, func(n api.Note) bool { return n.Who.Time < before })
	if now, e := refs.AllNotes(is); e != api.OK || !slices.Equal(now, old) {
		t.Fatalf("%s: the notes are %v, error %d, wanted %v", what, now, e, old)
	}
	others := func(files []api.File) []api.File {
		return slices.DeleteFunc(slices.Clone(files), func(f api.File) bool {
			return strings.HasPrefix(f.Path, "objects/") || strings.HasPrefix(f.Path, "reftable/")
		})
	}
	if !sameFiles(others(was), others(is)) {
		t.Fatalf("%s: index, worktree or seq have changed", what)
	}
	roots, _ := plainRoots(is)
	reached, _ := plainReach(was, roots)
	if ids, e := odb.Ids(is); e != api.OK || !slices.Equal(ids, reached) {
		t.Fatalf("%s: there are %d objects, error %d, wanted %d", what, len(ids), e, len(reached))
	}
	for _, id := range reached {
		x, _ := odb.Get(was, id)
		if y, e := odb.Get(is, id); e != api.OK || x.Kind != y.Kind || !bytes.Equal(x.Data, y.Data) {
			t.Fatalf("%s: an object is another one, error %d", what, e)
		}
	}
	files := 0
	for _, f := range is {
		if strings.HasPrefix(f.Path, "objects/") {
			files++
		}
	}
	if files != 2*min(1, len(reached)) {
		t.Fatalf("%s: %d files under objects/", what, files)
	}
}

// wantFsck fails unless Fsck tells problems just where the chapter's words do; it answers whether all is well.
func wantFsck(t *testing.T, what string, files []api.File) bool {
	t.Helper()
	problems := maint.Fsck(files)
	wanted := plainWell(files)
	if (len(problems) == 0) != wanted {
		t.Fatalf("%s: Fsck is %v, wanted that all is well: %v", what, problems, wanted)
	}
	for _, p := range problems {
		if p.E == api.OK {
			t.Fatalf("%s: a problem without an error: %v", what, problems)
		}
	}
	return wanted
}

// treeOf answers the trees of slots, and the root's id.
func treeOf(l ...api.Slot) ([]api.Object, api.Id) {
	objects, root, e := trees.Build(l)
	if e != api.OK {
		panic(fmt.Sprintf("trees.Build: error %d", e))
	}
	return objects, root
}

// manyNotes answers a repository whose two tables have more notes than one can have: one of the time 1, the others of 5.
func manyNotes(t *testing.T) []api.File {
	t.Helper()
	head := []api.Ref{{Name: "HEAD", Target: mainName}}
	var files []api.File
	names := ""
	for i := range 2 {
		min := 1 + i*api.MaxEntries
		max := min + api.MaxEntries - 1
		var notes []api.Note
		for n := max; n >= min; n-- {
			notes = append(notes, api.Note{Name: "HEAD", Index: n, Who: me(5)})
			if i == 0 && n == max || i == 0 && n == min {
				notes[len(notes)-1].Who.Time = 1
			}
		}
		if i == 1 {
			notes = notes[:1]
		}
		p, e := reftable.Write(head, notes, min, max)
		if e != api.OK {
			t.Fatalf("reftable.Write: error %d", e)
		}
		name := fmt.Sprintf("%012d-%012d.ref", min, max)
		names += name + "\n"
		files = having(files, "reftable/"+name, p)
	}
	return indexed(having(files, "reftable/tables.list", []byte(names)))
}
