package repo_test

import (
	"bytes"
	"crypto/sha256"
	"fmt"
	"maps"
	"slices"
	"strconv"
	"strings"
	"testing"

	"codicil/api"
	"codicil/index"
	"codicil/loose"
	"codicil/object"
	"codicil/odb"
	"codicil/refs"
	"codicil/repo"
	"codicil/trees"
)

const (
	mainName = "refs/heads/main"
	// wordy is longer than a note's message may be.
	wordy = 1001
)

// me is an ident at a time.
func me(time int) api.Ident { return api.Ident{Name: "A B", Email: "a@b", Time: time, Zone: 60} }

// nobody is no ident.
func nobody() api.Ident { return api.Ident{Name: "<", Time: 1} }

// long answers a path of n bytes, which has folders, as a name has at most 100.
func long(n int) string {
	return "long/" + strings.Repeat("n", (n-6)/2) + "/" + strings.Repeat("m", n-6-(n-6)/2)
}

// idOf answers the id of an object.
func idOf(o api.Object) api.Id {
	word := []string{"", "commit", "tree", "blob", "tag"}[o.Kind]
	return sha256.Sum256(append([]byte(word+" "+strconv.Itoa(len(o.Data))+"\x00"), o.Data...))
}

// blob answers a blob with these bytes.
func blob(text string) api.Object { return api.Object{Kind: api.Blob, Data: []byte(text)} }

// slot answers the slot that is told: a path, a blank and its text. A path with * behind it has the mode ModeExec, with @
// ModeLink; one with 1: to 3: ahead of it that stage.
func slot(one string) api.Slot {
	path, text, _ := strings.Cut(one, " ")
	s := api.Slot{Mode: api.ModeFile, Id: idOf(blob(text))}
	if stage, rest, is := strings.Cut(path, ":"); is {
		s.Stage, _ = strconv.Atoi(stage)
		path = rest
	}
	if rest, is := strings.CutSuffix(path, "*"); is {
		s.Mode, path = api.ModeExec, rest
	}
	if rest, is := strings.CutSuffix(path, "@"); is {
		s.Mode, path = api.ModeLink, rest
	}
	s.Path = path
	return s
}

// slots answers the slots that are told, as they stand.
func slots(list ...string) []api.Slot {
	var l []api.Slot
	for _, one := range list {
		l = append(l, slot(one))
	}
	return l
}

// sized answers slots with a Size and a Time.
func sized(l []api.Slot) []api.Slot {
	l = slices.Clone(l)
	for i := range l {
		l[i].Size, l[i].Time = 7+i, 9+i
	}
	return l
}

// bare answers slots without Size and Time.
func bare(l []api.Slot) []api.Slot {
	l = slices.Clone(l)
	for i := range l {
		l[i].Size, l[i].Time = 0, 0
	}
	return l
}

// patched answers files of which some are others: those of nil bytes are gone.
func patched(files []api.File, with map[string][]byte) []api.File {
	all := map[string][]byte{}
	for _, f := range files {
		all[f.Path] = f.Data
	}
	for path, data := range with {
		if data == nil {
			delete(all, path)
		} else {
			all[path] = data
		}
	}
	var list []api.File
	for _, path := range slices.Sorted(maps.Keys(all)) {
		list = append(list, api.File{Path: path, Data: all[path]})
	}
	return list
}

// having answers files with one more, or another one, without files with one less.
func having(files []api.File, path, text string) []api.File {
	return patched(files, map[string][]byte{path: append([]byte{}, text...)})
}

func without(files []api.File, path string) []api.File {
	return patched(files, map[string][]byte{path: nil})
}

// working answers files whose worktree has, beside what it has, files that are told: a path, a blank and a text.
func working(files []api.File, list ...string) []api.File {
	for _, one := range list {
		path, text, _ := strings.Cut(one, " ")
		files = having(files, "work/"+path, text)
	}
	return files
}

// indexed answers files whose index has slots.
func indexed(files []api.File, l []api.Slot) []api.File {
	p, e := index.Put(l)
	if e != api.OK {
		panic(fmt.Sprintf("index.Put: error %d", e))
	}
	return patched(files, map[string][]byte{"index": p})
}

// stored answers files with objects, and their ids.
func stored(files []api.File, list ...api.Object) ([]api.File, []api.Id) {
	changes, ids, e := odb.Put(files, list)
	if e != api.OK {
		panic(fmt.Sprintf("odb.Put: error %d", e))
	}
	files, e = odb.Made(files, changes)
	if e != api.OK {
		panic(fmt.Sprintf("odb.Made: error %d", e))
	}
	return files, ids
}

// referring answers files with a reference; one with neither Id nor Target is gone.
func referring(files []api.File, r api.Ref) []api.File {
	changes, e := refs.Update(files, []refs.Edit{{Ref: r, Any: true}}, me(3), "by hand")
	if e != api.OK {
		panic(fmt.Sprintf("refs.Update: error %d", e))
	}
	files, _ = odb.Made(files, changes)
	return files
}

// committed answers files with a commit of the slots that are told, with their blobs, made by hand, and its id.
func committed(files []api.File, list ...string) ([]api.File, api.Id) {
	all, root, e := trees.Build(slots(list...))
	if e != api.OK {
		panic(fmt.Sprintf("trees.Build: error %d", e))
	}
	for _, one := range list {
		_, text, _ := strings.Cut(one, " ")
		all = append(all, blob(text))
	}
	return pointing(files, root, all...)
}

// pointing answers files with objects and a commit of a tree, and its id.
func pointing(files []api.File, root api.Id, all ...api.Object) ([]api.File, api.Id) {
	p, e := object.PutCommit(api.Snapshot{Tree: root, Author: me(1), Committer: me(1), Message: "by hand"})
	if e != api.OK {
		panic(fmt.Sprintf("object.PutCommit: error %d", e))
	}
	files, ids := stored(files, append(all, api.Object{Kind: api.Commit, Data: p})...)
	return files, ids[len(ids)-1]
}

// place answers the path of a blob's file.
func place(text string) string { return loose.Place(idOf(blob(text))) }

// odd answers files with a commit of the paths a and others, each with its own path as text, but for the first of the others,
// which has an id by hand; a tree without entries is there, too.
func odd(files []api.File, id api.Id, others ...string) ([]api.File, api.Id) {
	l := slots("a a")
	objects := []api.Object{{Kind: api.Tree}, blob("a")}
	for i, path := range others {
		s := slot(path + " " + path)
		if i == 0 {
			s.Id = id
		} else {
			objects = append(objects, blob(path))
		}
		l = append(l, s)
	}
	all, root, e := trees.Build(l)
	if e != api.OK {
		panic(fmt.Sprintf("trees.Build: error %d", e))
	}
	return pointing(files, root, append(all, objects...)...)
}

// begun answers the files of Init.
func begun(t *testing.T) []api.File {
	t.Helper()
	files, e := repo.Init(me(1))
	if e != api.OK {
		t.Fatalf("Init: error %d", e)
	}
	return files
}

// at answers a repository whose tip has the slots that are told, whose index has these, too, and whose worktree their files;
// and the tip.
func at(t *testing.T, list ...string) ([]api.File, api.Id) {
	t.Helper()
	files, tip := committed(begun(t), list...)
	files = indexed(referring(files, api.Ref{Name: mainName, Id: tip}), sized(slots(list...)))
	for _, one := range list {
		_, text, _ := strings.Cut(one, " ")
		files = working(files, slot(one).Path+" "+text)
	}
	return files, tip
}

// branching answers files with a branch whose commit has the slots that are told, and that commit.
func branching(files []api.File, name string, list ...string) ([]api.File, api.Id) {
	files, id := committed(files, list...)
	return referring(files, api.Ref{Name: "refs/heads/" + name, Id: id}), id
}

// packedUp answers files whose objects stand in one pack.
func packedUp(t *testing.T, files []api.File) []api.File {
	t.Helper()
	ids, _ := odb.Ids(files)
	changes, e := odb.Repack(files, ids)
	if e != api.OK {
		t.Fatalf("Repack: error %d", e)
	}
	files, _ = odb.Made(files, changes)
	return files
}

// sameFiles answers whether two lists are the same.
func sameFiles(a, b []api.File) bool {
	return slices.EqualFunc(a, b, func(x, y api.File) bool { return x.Path == y.Path && bytes.Equal(x.Data, y.Data) })
}

// differing tells where two lists of files differ.
func differing(a, b []api.File) string {
	var text strings.Builder
	in := func(files []api.File, f api.File) bool {
		return slices.ContainsFunc(files, func(g api.File) bool { return g.Path == f.Path && bytes.Equal(g.Data, f.Data) })
	}
	for _, f := range a {
		if !in(b, f) {
			fmt.Fprintf(&text, "has %s %.80q; ", f.Path, f.Data)
		}
	}
	for _, f := range b {
		if !in(a, f) {
			fmt.Fprintf(&text, "hasn't %s %.80q; ", f.Path, f.Data)
		}
	}
	return text.String()[:min(text.Len(), 2000)]
}

// command is a command that changes files: as the package makes it, and by the chapter's words.
type command struct {
	what  string
	run   func(files []api.File) ([]api.File, api.Id, api.Errno)
	plain func(files []api.File) ([]api.File, api.Id, api.Errno)
}

// plainly answers a command without an id.
func plainly(what string, run, plain func(files []api.File) ([]api.File, api.Errno)) command {
	return command{what, func(files []api.File) ([]api.File, api.Id, api.Errno) {
		files, e := run(files)
		return files, api.Id{}, e
	}, func(files []api.File) ([]api.File, api.Id, api.Errno) {
		files, e := plain(files)
		return files, api.Id{}, e
	}}
}

func write(path, text string) command {
	return plainly(fmt.Sprintf("Write(%.200q, %.20q)", path, text),
		func(files []api.File) ([]api.File, api.Errno) { return repo.Write(files, path, []byte(text)) },
		func(files []api.File) ([]api.File, api.Errno) { return plainWrite(files, path, text) })
}

func erase(path string) command {
	return plainly(fmt.Sprintf("Erase(%.200q)", path),
		func(files []api.File) ([]api.File, api.Errno) { return repo.Erase(files, path) },
		func(files []api.File) ([]api.File, api.Errno) { return plainErase(files, path) })
}

func add(path string, now int) command {
	return plainly(fmt.Sprintf("Add(%.200q, %d)", path, now),
		func(files []api.File) ([]api.File, api.Errno) { return repo.Add(files, path, now) },
		func(files []api.File) ([]api.File, api.Errno) { return plainAdd(files, path, now) })
}

func commit(message string) command { return commitBy(me(5), message) }

func commitBy(who api.Ident, message string) command {
	return command{fmt.Sprintf("Commit(%.30q)", message),
		func(files []api.File) ([]api.File, api.Id, api.Errno) { return repo.Commit(files, who, message) },
		func(files []api.File) ([]api.File, api.Id, api.Errno) { return plainCommit(files, who, message) }}
}

func branch(name string, at api.Id) command { return branchBy(me(6), name, at) }

func branchBy(who api.Ident, name string, at api.Id) command {
	return plainly(fmt.Sprintf("Branch(%q, %x)", name, at[:4]),
		func(files []api.File) ([]api.File, api.Errno) { return repo.Branch(files, name, at, who) },
		func(files []api.File) ([]api.File, api.Errno) { return plainBranch(files, name, at, who) })
}

func switchTo(name string) command { return switchBy(me(7), name) }

func switchBy(who api.Ident, name string) command {
	return plainly(fmt.Sprintf("Switch(%q)", name),
		func(files []api.File) ([]api.File, api.Errno) { return repo.Switch(files, name, who) },
		func(files []api.File) ([]api.File, api.Errno) { return plainSwitch(files, name, who) })
}

func reset(way int, at api.Id) command { return resetBy(me(8), way, at) }

func resetBy(who api.Ident, way int, at api.Id) command {
	return plainly(fmt.Sprintf("Reset(%d, %x)", way, at[:4]),
		func(files []api.File) ([]api.File, api.Errno) { return repo.Reset(files, way, at, who) },
		func(files []api.File) ([]api.File, api.Errno) { return plainReset(files, way, at, who) })
}

// wantPlain fails unless a command answers what the chapter's words do, byte by byte; it answers that.
func wantPlain(t *testing.T, what string, files []api.File, c command) ([]api.File, api.Id, api.Errno) {
	t.Helper()
	made, id, e := c.run(files)
	wanted, wantedId, errno := c.plain(files)
	if e != errno || id != wantedId || !sameFiles(made, wanted) {
		t.Fatalf("%s, %s: error %d, %x, wanted error %d, %x; it %s", what, c.what, e, id[:4], errno, wantedId[:4], differing(made, wanted))
	}
	return made, id, e
}

// want fails unless commands, one behind the other, have no error, and answer what the chapter's words do; it answers the
// files behind the last one.
func want(t *testing.T, what string, files []api.File, list ...command) []api.File {
	t.Helper()
	for _, c := range list {
		made, _, e := wantPlain(t, what, files, c)
		if e != api.OK {
			t.Fatalf("%s, %s: error %d", what, c.what, e)
		}
		files = made
	}
	return files
}

// wantError fails unless a command answers that error alone, and the chapter's words do.
func wantError(t *testing.T, what string, files []api.File, c command, wanted api.Errno) {
	t.Helper()
	made, id, e := wantPlain(t, what, files, c)
	if e != wanted || len(made) != 0 || id != (api.Id{}) {
		t.Errorf("%s, %s: %d files, %x, error %d, wanted error %d alone", what, c.what, len(made), id[:4], e, wanted)
	}
}

// wantIndex fails unless the index has just the slots that are told, but for Size and Time.
func wantIndex(t *testing.T, what string, files []api.File, list ...string) {
	t.Helper()
	if l, e := repo.Index(files); e != api.OK || !slices.Equal(bare(l), slots(list...)) {
		t.Errorf("%s: the index has %v, error %d, wanted %q", what, l, e, list)
	}
}

// wantWork fails unless the worktree has just the files that are told: a path, a blank and a text.
func wantWork(t *testing.T, what string, files []api.File, list ...string) {
	t.Helper()
	l, e := repo.Work(files)
	var told []string
	for _, f := range l {
		told = append(told, f.Path+" "+string(f.Data))
	}
	if e != api.OK || !slices.Equal(told, list) {
		t.Errorf("%s: the worktree has %q, error %d, wanted %q", what, told, e, list)
	}
}

// wantStatus fails unless Status answers what is told, each as both letters, a blank and a path, and the chapter's words do.
func wantStatus(t *testing.T, what string, files []api.File, list ...string) {
	t.Helper()
	l, e := repo.Status(files)
	var told []string
	for _, s := range l {
		told = append(told, string([]byte{s.Staged, s.Work})+" "+s.Path)
	}
	if e != api.OK || !slices.Equal(told, list) {
		t.Errorf("%s: Status is %q, error %d, wanted %q", what, told, e, list)
	}
	wantRead(t, what, files)
}

// wantHead fails unless HEAD names that branch, whose tip is that.
func wantHead(t *testing.T, what string, files []api.File, name string, tip api.Id) {
	t.Helper()
	if b, id, e := repo.Head(files); b != name || id != tip || e != api.OK {
		t.Errorf("%s: Head is %q, %x, error %d, wanted %q, %x", what, b, id, e, name, tip)
	}
}

// wantNote fails unless the newest note of a name is that: from one Id to another, with a message.
func wantNote(t *testing.T, what string, files []api.File, name string, old, new api.Id, who api.Ident, message string) {
	t.Helper()
	l, e := refs.Notes(files, name)
	if e != api.OK || len(l) == 0 {
		t.Fatalf("%s: no notes of %s, error %d", what, name, e)
	}
	if n := l[0]; n.Old != old || n.New != new || n.Who != who || n.Message != message {
		t.Errorf("%s: the note of %s is %v", what, name, n)
	}
}
