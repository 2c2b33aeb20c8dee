package refs_test

import (
	"bytes"
	"cmp"
	"fmt"
	"maps"
	"slices"
	"strings"
	"testing"

	"codicil/api"
	"codicil/odb"
	"codicil/refs"
	"codicil/reftable"
	"codicil/txfile"
)

const (
	mainName = "refs/heads/main"
	listPath = "reftable/tables.list"
)

// gone, at and to answer a reference: one that is gone, one with an Id, one with a Target.
func gone(name string) api.Ref { return api.Ref{Name: name} }

func at(name string, n byte) api.Ref { return api.Ref{Name: name, Id: api.Id{n}} }

func to(name, target string) api.Ref { return api.Ref{Name: name, Target: target} }

// set answers an edit to a reference, whatever is there; expecting one that asks for an Id.
func set(r api.Ref) refs.Edit { return refs.Edit{Ref: r, Any: true} }

func expecting(r api.Ref, n byte) refs.Edit { return refs.Edit{Ref: r, Expect: api.Id{n}} }

// me is an ident at a time.
func me(time int) api.Ident { return api.Ident{Name: "A B", Email: "a@b", Time: time, Zone: 60} }

// note answers a note from one Id to another.
func note(name string, index int, old, new byte, time int) api.Note {
	return api.Note{Name: name, Index: index, Old: api.Id{old}, New: api.Id{new}, Who: me(time), Message: "m"}
}

// table is a table of a stack.
type table struct {
	refs     []api.Ref
	notes    []api.Note
	min, max int
}

// name answers the path of a table without its folder.
func (x table) name() string { return fmt.Sprintf("%012d-%012d.ref", x.min, x.max) }

// file answers the file of a table.
func (x table) file() api.File {
	p, e := reftable.Write(x.refs, x.notes, x.min, x.max)
	if e != api.OK {
		panic(fmt.Sprintf("reftable.Write: error %d", e))
	}
	return api.File{Path: "reftable/" + x.name(), Data: p}
}

// stack is tables, the oldest first.
type stack []table

// list answers the file tables.list of a stack.
func (s stack) list() api.File {
	var p []byte
	for _, x := range s {
		p = append(p, x.name()+"\n"...)
	}
	return api.File{Path: listPath, Data: p}
}

// files answers the files of a stack; without a table none.
func (s stack) files() []api.File {
	var files []api.File
	for _, x := range s {
		files = append(files, x.file())
	}
	if len(s) > 0 {
		files = append(files, s.list())
	}
	return byPaths(files)
}

// byPaths answers lists of files as one, by paths.
func byPaths(lists ...[]api.File) []api.File {
	files := slices.Concat(lists...)
	slices.SortFunc(files, func(a, b api.File) int { return strings.Compare(a.Path, b.Path) })
	return files
}

// refs answers by the chapter's words the references that are there, by names.
func (s stack) refs() []api.Ref {
	newest := map[string]api.Ref{}
	for _, x := range s {
		for _, r := range x.refs {
			newest[r.Name] = r
		}
	}
	var list []api.Ref
	for _, name := range slices.Sorted(maps.Keys(newest)) {
		if r := newest[name]; r.Target != "" || r.Id != (api.Id{}) {
			list = append(list, r)
		}
	}
	return list
}

// ref answers the reference of a name; one that is gone, if there is none.
func (s stack) ref(name string) api.Ref {
	for _, r := range s.refs() {
		if r.Name == name {
			return r
		}
	}
	return gone(name)
}

// notes answers all notes, by names, the newest first.
func (s stack) notes() []api.Note {
	var list []api.Note
	for _, x := range s {
		list = append(list, x.notes...)
	}
	slices.SortFunc(list, func(a, b api.Note) int {
		return cmp.Or(strings.Compare(a.Name, b.Name), cmp.Compare(b.Index, a.Index))
	})
	return list
}

// notesOf answers the notes of a name, the newest first.
func (s stack) notesOf(name string) []api.Note {
	return slices.DeleteFunc(s.notes(), func(n api.Note) bool { return n.Name != name })
}

// last answers the greatest number, 0 without a table.
func (s stack) last() int {
	if len(s) == 0 {
		return 0
	}
	return s[len(s)-1].max
}

// merged answers one table of a stack's numbers.
func (s stack) merged() stack { return stack{{s.refs(), s.notes(), 1, s.last()}} }

// updated answers by the chapter's words the stack behind an update that has no error.
func (s stack) updated(edits []refs.Edit, who api.Ident, message string) stack {
	x := table{min: s.last() + 1, max: s.last() + 1}
	headEdited := slices.ContainsFunc(edits, func(e refs.Edit) bool { return e.Ref.Name == "HEAD" })
	for _, e := range edits {
		x.refs = append(x.refs, e.Ref)
		old := s.ref(e.Ref.Name).Id
		if e.Ref.Target != "" || old == e.Ref.Id {
			continue
		}
		x.notes = append(x.notes, api.Note{Name: e.Ref.Name, Index: x.min, Old: old, New: e.Ref.Id, Who: who, Message: message})
		if s.ref("HEAD").Target == e.Ref.Name && !headEdited {
			x.notes = append(x.notes, api.Note{Name: "HEAD", Index: x.min, Old: old, New: e.Ref.Id, Who: who, Message: message})
		}
	}
	slices.SortFunc(x.refs, func(a, b api.Ref) int { return strings.Compare(a.Name, b.Name) })
	slices.SortFunc(x.notes, func(a, b api.Note) int { return strings.Compare(a.Name, b.Name) })
	behind := append(slices.Clone(s), x)
	if len(behind) > 5 {
		return behind.merged()
	}
	return behind
}

// dropped answers by the chapter's words the stack behind Drop.
func (s stack) dropped(before int) stack {
	if len(s) == 0 {
		return nil
	}
	behind := s.merged()
	behind[0].notes = slices.DeleteFunc(behind[0].notes, func(n api.Note) bool { return n.Who.Time < before })
	return behind
}

// changesTo answers the changes by which files that have this stack have that one, by paths.
func (s stack) changesTo(files []api.File, behind stack) []txfile.Change {
	stands := map[string][]byte{}
	for _, f := range files {
		stands[f.Path] = f.Data
	}
	wanted := map[string][]byte{}
	for _, f := range behind.files() {
		wanted[f.Path] = f.Data
	}
	var list []txfile.Change
	for _, x := range s {
		if path := "reftable/" + x.name(); wanted[path] == nil {
			list = append(list, txfile.Change{Path: path, Gone: true})
		}
	}
	for path, data := range wanted {
		if was, there := stands[path]; !there || !bytes.Equal(was, data) {
			list = append(list, txfile.Change{Path: path, Data: data})
		}
	}
	slices.SortFunc(list, func(a, b txfile.Change) int { return strings.Compare(a.Path, b.Path) })
	return list
}

// sameChanges and sameFiles answer whether two lists are the same.
func sameChanges(a, b []txfile.Change) bool {
	return slices.EqualFunc(a, b, func(x, y txfile.Change) bool {
		return x.Path == y.Path && x.Gone == y.Gone && bytes.Equal(x.Data, y.Data)
	})
}

func sameFiles(a, b []api.File) bool {
	return slices.EqualFunc(a, b, func(x, y api.File) bool { return x.Path == y.Path && bytes.Equal(x.Data, y.Data) })
}

// told answers the paths of changes.
func told(list []txfile.Change) []string {
	var all []string
	for _, c := range list {
		path := fmt.Sprintf("%s: %d bytes", c.Path, len(c.Data))
		if c.Gone {
			path += ", gone"
		}
		all = append(all, path)
	}
	return all
}

// made answers the files behind changes, and fails if there is an error.
func made(t *testing.T, files []api.File, list []txfile.Change) []api.File {
	t.Helper()
	behind, e := odb.Made(files, list)
	if e != api.OK {
		t.Fatalf("Made: error %d", e)
	}
	return behind
}

// wantUpdated fails unless Update answers the changes that the chapter's words ask for, and behind them all is as they say; it answers both stack and files then.
func wantUpdated(t *testing.T, what string, s stack, files []api.File, who api.Ident, message string, edits ...refs.Edit) (stack, []api.File) {
	t.Helper()
	list, e := refs.Update(files, edits, who, message)
	behind := s.updated(edits, who, message)
	if wanted := s.changesTo(files, behind); e != api.OK || !sameChanges(list, wanted) {
		t.Fatalf("Update, %s: %q, error %d, wanted %q", what, told(list), e, told(wanted))
	}
	files = made(t, files, list)
	wantStack(t, what, files, behind)
	return behind, files
}

// wantDropped fails unless Drop answers the changes that the chapter's words ask for; it answers both stack and files behind them.
func wantDropped(t *testing.T, what string, s stack, files []api.File, before int) (stack, []api.File) {
	t.Helper()
	list, e := refs.Drop(files, before)
	behind := s.dropped(before)
	if wanted := s.changesTo(files, behind); e != api.OK || !sameChanges(list, wanted) {
		t.Fatalf("Drop, %s: %q, error %d, wanted %q", what, told(list), e, told(wanted))
	}
	files = made(t, files, list)
	wantStack(t, what, files, behind)
	return behind, files
}

// wantStack fails unless List, Get and Notes answer of files what a stack says.
func wantStack(t *testing.T, what string, files []api.File, s stack) {
	t.Helper()
	if list, e := refs.List(files); e != api.OK || !slices.Equal(list, s.refs()) {
		t.Fatalf("List, %s: %v, error %d, wanted %v", what, list, e, s.refs())
	}
	if list, e := refs.AllNotes(files); e != api.OK || !slices.Equal(list, s.notes()) {
		t.Fatalf("AllNotes, %s: %v, error %d, wanted %v", what, list, e, s.notes())
	}
	asked := map[string]int{"HEAD": 0, mainName: 0, "refs/none/none": 0, "": 0, "no name": 0}
	for _, x := range s {
		for _, r := range x.refs {
			asked[r.Name]++
		}
		for _, n := range x.notes {
			asked[n.Name]++
		}
	}
	all := slices.Sorted(maps.Keys(asked))
	// Of very many names a few are asked: each call reads all tables anew.
	for i := 0; i < len(all); i += 1 + len(all)/100*50 {
		name := all[i]
		wanted, errno := s.ref(name), api.OK
		if wanted == gone(name) {
			wanted, errno = api.Ref{}, api.ErrNone
		}
		if r, e := refs.Get(files, name); r != wanted || e != errno {
			t.Fatalf("Get(%q), %s: %v, error %d, wanted %v, error %d", name, what, r, e, wanted, errno)
		}
		if list, e := refs.Notes(files, name); e != api.OK || !slices.Equal(list, s.notesOf(name)) {
			t.Fatalf("Notes(%q), %s: %v, error %d, wanted %v", name, what, list, e, s.notesOf(name))
		}
	}
}

// wantResolved fails unless Resolve answers that name and Id.
func wantResolved(t *testing.T, what string, files []api.File, name, last string, id api.Id) {
	t.Helper()
	if l, i, e := refs.Resolve(files, name); l != last || i != id || e != api.OK {
		t.Errorf("Resolve(%q), %s: %q, %x, error %d, wanted %q, %x", name, what, l, i, e, last, id)
	}
}

// wantUnresolved fails unless Resolve answers that error alone.
func wantUnresolved(t *testing.T, what string, files []api.File, name string, wanted api.Errno) {
	t.Helper()
	if l, i, e := refs.Resolve(files, name); l != "" || i != (api.Id{}) || e != wanted {
		t.Errorf("Resolve(%q), %s: %q, %x, error %d, wanted error %d alone", name, what, l, i, e, wanted)
	}
}

// wantRefused fails unless Update answers that error alone.
func wantRefused(t *testing.T, what string, files []api.File, edits []refs.Edit, who api.Ident, message string, wanted api.Errno) {
	t.Helper()
	if list, e := refs.Update(files, edits, who, message); len(list) != 0 || e != wanted {
		t.Errorf("Update, %s: %q, error %d, wanted error %d alone", what, told(list), e, wanted)
	}
}

// wantNoStack fails unless each call answers ErrForm alone.
func wantNoStack(t *testing.T, what string, files []api.File) {
	t.Helper()
	list, e1 := refs.List(files)
	r, e2 := refs.Get(files, mainName)
	notes, e3 := refs.Notes(files, mainName)
	dropped, e4 := refs.Drop(files, 0)
	all, e5 := refs.AllNotes(files)
	for _, e := range []api.Errno{e1, e2, e3, e4, e5} {
		if e != api.ErrForm {
			t.Errorf("%s: errors %d, %d, %d, %d, %d", what, e1, e2, e3, e4, e5)
			break
		}
	}
	if len(list) != 0 || r != (api.Ref{}) || len(notes) != 0 || len(dropped) != 0 || len(all) != 0 {
		t.Errorf("%s: something is beside ErrForm", what)
	}
	wantUnresolved(t, what, files, mainName, api.ErrForm)
	wantRefused(t, what, files, []refs.Edit{set(at(mainName, 1))}, me(1), "m", api.ErrForm)
	// Files with an error tell nothing of what is there: their error comes ahead of all others.
	wantRefused(t, what+", no edits", files, nil, me(1), "m", api.ErrForm)
	wantRefused(t, what+", a long message", files, []refs.Edit{set(at(mainName, 1))}, me(-1), letters(1001), api.ErrForm)
	if _, e := refs.Get(files, "no name"); e != api.ErrForm {
		t.Errorf("%s: Get of no name: error %d", what, e)
	}
}

// letters answers a text of n letters.
func letters(n int) string { return strings.Repeat("a", n) }
