package treemerge_test

import (
	"bytes"
	"crypto/sha256"
	"fmt"
	"maps"
	"slices"
	"strconv"
	"strings"
	"testing"

	"codicil/api"
	"codicil/loose"
	"codicil/odb"
	"codicil/treemerge"
)

// both are the labels of trees that are merged, where nothing hangs on them.
func both() [2]string { return [2]string{"our label", "their label"} }

// clash answers how merge.Three tells a piece that clashes, its lines having their line feeds.
func clash(ours, base, theirs string) string {
	return "<<<<<<< our label\n" + ours + "||||||| base\n" + base + "=======\n" + theirs + ">>>>>>> their label\n"
}

// idOf answers the id of an object.
func idOf(o api.Object) api.Id {
	word := []string{"", "commit", "tree", "blob", "tag"}[o.Kind]
	return sha256.Sum256(append([]byte(word+" "+strconv.Itoa(len(o.Data))+"\x00"), o.Data...))
}

// blob answers a blob with these bytes.
func blob(text string) api.Object { return api.Object{Kind: api.Blob, Data: []byte(text)} }

// own answers files of their own for objects, in order.
func own(list ...api.Object) []api.File {
	state := map[string][]byte{}
	for _, o := range list {
		p, e := loose.Pack(o)
		if e != api.OK {
			panic(fmt.Sprintf("Pack: error %d", e))
		}
		state[loose.Place(idOf(o))] = p
	}
	var files []api.File
	for _, path := range slices.Sorted(maps.Keys(state)) {
		files = append(files, api.File{Path: path, Data: state[path]})
	}
	return files
}

// packed answers files in which all objects stand in one pack.
func packed(t *testing.T, list ...api.Object) []api.File {
	t.Helper()
	files := own(list...)
	ids, _ := odb.Ids(files)
	changes, e := odb.Repack(files, ids)
	if e != api.OK {
		t.Fatalf("Repack: error %d", e)
	}
	behind, e := odb.Made(files, changes)
	if e != api.OK {
		t.Fatalf("Made: error %d", e)
	}
	return behind
}

// told is a list of slots, each as a path, a blank and its text. A path with * behind it has the mode ModeExec, with @
// ModeLink; one with 1: to 3: ahead of it that stage.
type told []string

// slot answers the slot that is told so, with Size and Time.
func slot(one string) (api.Slot, string) {
	path, text, _ := strings.Cut(one, " ")
	s := api.Slot{Mode: api.ModeFile, Id: idOf(blob(text)), Size: 1 + len(text), Time: 1 + len(path)}
	if stage, rest, is := strings.Cut(path, ":"); is {
		s.Stage, _ = strconv.Atoi(stage)
		path = rest
	}
	if rest, is := strings.CutSuffix(path, "*"); is {
		s.Mode, path = api.ModeExec, rest
	}
	if rest, is := strings.CutSuffix(path, "@"); is {
		s.Mode, path = api.ModeLink, rest
	}
	s.Path = path
	return s, text
}

// slots answers the slots that are told, as they stand.
func (l told) slots() []api.Slot {
	var list []api.Slot
	for _, one := range l {
		s, _ := slot(one)
		list = append(list, s)
	}
	return list
}

// bare answers slots without Size and Time.
func bare(l []api.Slot) []api.Slot {
	l = slices.Clone(l)
	for i := range l {
		l[i].Size, l[i].Time = 0, 0
	}
	return l
}

// blobsOf answers the blobs of lists.
func blobsOf(lists ...told) []api.Object {
	var list []api.Object
	for _, one := range slices.Concat(lists...) {
		_, text := slot(one)
		list = append(list, blob(text))
	}
	return list
}

// result answers what is told: slots, the texts of paths that clash, the texts of blobs.
func result(slots, work told, texts ...string) treemerge.Result {
	r := treemerge.Result{Slots: bare(slots.slots())}
	for _, one := range work {
		path, text, _ := strings.Cut(one, " ")
		r.Work = append(r.Work, api.File{Path: path, Data: []byte(text)})
	}
	for _, text := range texts {
		r.Objects = append(r.Objects, blob(text))
	}
	return r
}

// equal answers whether two results are the same.
func equal(a, b treemerge.Result) bool {
	sameFile := func(x, y api.File) bool { return x.Path == y.Path && bytes.Equal(x.Data, y.Data) }
	sameObject := func(x, y api.Object) bool { return x.Kind == y.Kind && bytes.Equal(x.Data, y.Data) }
	return slices.Equal(a.Slots, b.Slots) && slices.EqualFunc(a.Work, b.Work, sameFile) && slices.EqualFunc(a.Objects, b.Objects, sameObject)
}

// brief tells a result, cut short.
func brief(r treemerge.Result) string {
	var text strings.Builder
	for _, s := range r.Slots {
		fmt.Fprintf(&text, "%d:%s %o %x.. %d %d; ", s.Stage, s.Path, s.Mode, s.Id[:4], s.Size, s.Time)
	}
	for _, f := range r.Work {
		fmt.Fprintf(&text, "work %s %.200q; ", f.Path, f.Data)
	}
	for _, o := range r.Objects {
		fmt.Fprintf(&text, "object %d %.200q; ", o.Kind, o.Data)
	}
	return text.String()[:min(text.Len(), 1000)]
}

// wantIs fails unless Merge answers that result and no error.
func wantIs(t *testing.T, what string, files []api.File, base, ours, theirs []api.Slot, wanted treemerge.Result) {
	t.Helper()
	if r, e := treemerge.Merge(files, base, ours, theirs, both()); e != api.OK || !equal(r, wanted) {
		t.Errorf("%s: error %d, %s\nwanted %s", what, e, brief(r), brief(wanted))
	}
}

// wantError fails unless Merge answers that error alone.
func wantError(t *testing.T, what string, files []api.File, base, ours, theirs []api.Slot, wanted api.Errno) {
	t.Helper()
	if r, e := treemerge.Merge(files, base, ours, theirs, both()); e != wanted || len(r.Slots)+len(r.Work)+len(r.Objects) != 0 {
		t.Errorf("%s: error %d, %s, wanted error %d alone", what, e, brief(r), wanted)
	}
}

// want fails unless Merge answers that result, from files of their own and from a pack, the chapter's words do, and with both
// sides exchanged the same paths clash (P23.2).
func want(t *testing.T, what string, base, ours, theirs told, wanted treemerge.Result) {
	t.Helper()
	list := blobsOf(base, ours, theirs)
	o, a, b := base.slots(), ours.slots(), theirs.slots()
	for _, files := range [][]api.File{own(list...), packed(t, list...)} {
		wantIs(t, what, files, o, a, b, wanted)
	}
	if r, e := plainMerge(own(list...), o, a, b, both()); e != api.OK || !equal(r, wanted) {
		t.Errorf("by the chapter's words, %s: error %d, %s", what, e, brief(r))
	}
	wantPlain(t, what, own(list...), o, a, b)
}

// wantExists fails unless Merge answers ErrExists, the chapter's words do, and with both sides exchanged, too.
func wantExists(t *testing.T, what string, base, ours, theirs told) {
	t.Helper()
	files := own(blobsOf(base, ours, theirs)...)
	wantError(t, what, files, base.slots(), ours.slots(), theirs.slots(), api.ErrExists)
	wantError(t, what+", exchanged", files, base.slots(), theirs.slots(), ours.slots(), api.ErrExists)
	wantPlain(t, what, files, base.slots(), ours.slots(), theirs.slots())
}

// wantPlain fails unless Merge answers what the chapter's words do, with both sides exchanged, too, and the same paths clash
// then (P23.2). It answers what came out.
func wantPlain(t *testing.T, what string, files []api.File, base, ours, theirs []api.Slot) (treemerge.Result, api.Errno) {
	t.Helper()
	wanted, errno := wantOneWay(t, what, files, base, ours, theirs)
	turned, turnedErrno := wantOneWay(t, what+", exchanged", files, base, theirs, ours)
	if errno == api.OK && turnedErrno == api.OK && !slices.Equal(clashing(wanted), clashing(turned)) {
		t.Errorf("%s: %v clash, with both sides exchanged %v", what, clashing(wanted), clashing(turned))
	}
	return wanted, errno
}

// wantOneWay fails unless Merge answers what the chapter's words do, which it answers.
func wantOneWay(t *testing.T, what string, files []api.File, base, ours, theirs []api.Slot) (treemerge.Result, api.Errno) {
	t.Helper()
	wanted, errno := plainMerge(files, base, ours, theirs, both())
	if errno == api.OK {
		wantIs(t, what, files, base, ours, theirs, wanted)
	} else {
		wantError(t, what, files, base, ours, theirs, errno)
	}
	return wanted, errno
}

// clashing answers the paths that clash.
func clashing(r treemerge.Result) []string {
	var list []string
	for _, s := range r.Slots {
		if s.Stage != 0 {
			list = append(list, s.Path)
		}
	}
	return slices.Compact(list)
}
