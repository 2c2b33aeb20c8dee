package trees_test

import (
	"bytes"
	"crypto/sha256"
	"fmt"
	"maps"
	"slices"
	"strconv"
	"strings"
	"testing"

	"codicil/api"
	"codicil/loose"
	"codicil/odb"
	"codicil/trees"
)

// letters answers a text of n letters.
func letters(n int) string { return strings.Repeat("a", n) }

// idOf answers the id of an object.
func idOf(o api.Object) api.Id {
	word := []string{"", "commit", "tree", "blob", "tag"}[o.Kind]
	return sha256.Sum256(append([]byte(word+" "+strconv.Itoa(len(o.Data))+"\x00"), o.Data...))
}

// blobId answers an id that hangs on a text.
func blobId(text string) api.Id { return sha256.Sum256([]byte(text)) }

// slot answers a slot of a path at the stage 0, with a Size and a Time; staged one at a stage.
func slot(path string) api.Slot {
	mode := []int{api.ModeFile, api.ModeExec, api.ModeLink}[len(path)%3]
	return api.Slot{Path: path, Mode: mode, Id: blobId(path), Size: len(path), Time: 7}
}

func staged(path string, stage int) api.Slot {
	s := slot(path)
	s.Stage = stage
	return s
}

// slots answers slots of these paths, in their order.
func slots(paths ...string) []api.Slot {
	var l []api.Slot
	for _, path := range paths {
		l = append(l, slot(path))
	}
	return l
}

// bare answers slots without Size and Time.
func bare(l []api.Slot) []api.Slot {
	l = slices.Clone(l)
	for i := range l {
		l[i].Size, l[i].Time = 0, 0
	}
	return l
}

// file and folder answer an entry of a tree.
func file(name string) api.Entry {
	return api.Entry{Mode: slot(name).Mode, Name: name, Id: blobId(name)}
}

func folder(name string, o api.Object) api.Entry {
	return api.Entry{Mode: api.ModeTree, Name: name, Id: idOf(o)}
}

// tree answers the tree of entries, in the order that they have, whether they may be or not.
func tree(entries ...api.Entry) api.Object {
	o := api.Object{Kind: api.Tree}
	for _, e := range entries {
		o.Data = append(o.Data, strconv.FormatInt(int64(e.Mode), 8)+" "+e.Name+"\x00"+string(e.Id[:])...)
	}
	return o
}

// key answers by what an entry is ordered.
func key(e api.Entry) string {
	if e.Mode == api.ModeTree {
		return e.Name + "/"
	}
	return e.Name
}

// plainBuild answers by the chapter's words the trees of slots.
func plainBuild(l []api.Slot) []api.Object {
	inner := map[string][]api.Slot{}
	var entries []api.Entry
	for _, s := range l {
		name, rest, below := strings.Cut(s.Path, "/")
		if !below {
			entries = append(entries, api.Entry{Mode: s.Mode, Name: name, Id: s.Id})
			continue
		}
		s.Path = rest
		inner[name+"/"] = append(inner[name+"/"], s)
	}
	var list []api.Object
	for _, name := range slices.Sorted(maps.Keys(inner)) {
		list = append(list, plainBuild(inner[name])...)
		entries = append(entries, folder(strings.TrimSuffix(name, "/"), list[len(list)-1]))
	}
	slices.SortFunc(entries, func(a, b api.Entry) int { return strings.Compare(key(a), key(b)) })
	return append(list, tree(entries...))
}

// own answers files of their own for objects, in order.
func own(list ...api.Object) []api.File {
	state := map[string][]byte{}
	for _, o := range list {
		p, e := loose.Pack(o)
		if e != api.OK {
			panic(fmt.Sprintf("Pack: error %d", e))
		}
		state[loose.Place(idOf(o))] = p
	}
	var files []api.File
	for _, path := range slices.Sorted(maps.Keys(state)) {
		files = append(files, api.File{Path: path, Data: state[path]})
	}
	return files
}

// packed answers files in which all objects stand in one pack.
func packed(t *testing.T, list ...api.Object) []api.File {
	t.Helper()
	files := own(list...)
	ids, _ := odb.Ids(files)
	changes, e := odb.Repack(files, ids)
	if e != api.OK {
		t.Fatalf("Repack: error %d", e)
	}
	behind, e := odb.Made(files, changes)
	if e != api.OK {
		t.Fatalf("Made: error %d", e)
	}
	return behind
}

// same answers whether two lists of objects are the same.
func same(a, b []api.Object) bool {
	return slices.EqualFunc(a, b, func(x, y api.Object) bool { return x.Kind == y.Kind && bytes.Equal(x.Data, y.Data) })
}

// told answers the bytes of objects.
func told(list []api.Object) []string {
	var all []string
	for _, o := range list {
		all = append(all, string(o.Data))
	}
	return all
}

// wantBuilt fails unless Build answers these trees, which the chapter's words do, too.
func wantBuilt(t *testing.T, what string, l []api.Slot, wanted ...api.Object) {
	t.Helper()
	list, root, e := trees.Build(l)
	if e != api.OK || !same(list, wanted) || root != idOf(wanted[len(wanted)-1]) {
		t.Errorf("Build, %s: %.300q, %x, error %d, wanted %.300q", what, told(list), root, e, told(wanted))
	}
	if !same(plainBuild(l), wanted) {
		t.Errorf("by the chapter's words, %s: %.300q", what, told(plainBuild(l)))
	}
}

// wantBack fails unless slots are built as the chapter's words say, and flattened again, from files of their own and from a
// pack (P18.3).
func wantBack(t *testing.T, what string, l []api.Slot) {
	t.Helper()
	list := plainBuild(l)
	wantBuilt(t, what, l, list...)
	root := idOf(list[len(list)-1])
	wantFlat(t, what, own(list...), root, bare(l)...)
	wantFlat(t, what+", from a pack", packed(t, list...), root, bare(l)...)
}

// wantRefused fails unless Build answers that error alone.
func wantRefused(t *testing.T, what string, l []api.Slot, wanted api.Errno) {
	t.Helper()
	if list, root, e := trees.Build(l); len(list) != 0 || root != (api.Id{}) || e != wanted {
		t.Errorf("Build, %s: %d trees, %x, error %d, wanted error %d alone", what, len(list), root, e, wanted)
	}
}

// wantFlat fails unless Flatten answers these slots.
func wantFlat(t *testing.T, what string, files []api.File, root api.Id, wanted ...api.Slot) {
	t.Helper()
	if l, e := trees.Flatten(files, root); e != api.OK || !slices.Equal(l, wanted) {
		t.Errorf("Flatten, %s: %.300v, error %d, wanted %.300v", what, l, e, wanted)
	}
}

// wantNotFlat fails unless Flatten answers that error alone.
func wantNotFlat(t *testing.T, what string, files []api.File, root api.Id, wanted api.Errno) {
	t.Helper()
	if l, e := trees.Flatten(files, root); len(l) != 0 || e != wanted {
		t.Errorf("Flatten, %s: %d slots, error %d, wanted error %d alone", what, len(l), e, wanted)
	}
}
