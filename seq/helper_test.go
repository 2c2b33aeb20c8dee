package seq_test

import (
	"bytes"
	"crypto/sha256"
	"fmt"
	"maps"
	"slices"
	"strconv"
	"strings"
	"testing"

	"codicil/api"
	"codicil/base"
	"codicil/index"
	"codicil/loose"
	"codicil/object"
	"codicil/odb"
	"codicil/refs"
	"codicil/repo"
	"codicil/seq"
	"codicil/trees"
)

const (
	mainName = "refs/heads/main"
	topName  = "refs/stash/top"
)

// me is an ident at a time, you another one.
func me(time int) api.Ident { return api.Ident{Name: "A B", Email: "a@b", Time: time, Zone: 60} }

func you(time int) api.Ident { return api.Ident{Name: "Y", Email: "y@y", Time: time, Zone: -90} }

// nobody is no ident.
func nobody() api.Ident { return api.Ident{Name: "<", Time: 1} }

// long answers a path of n bytes, which has folders, as a name has at most 100.
func long(n int) string {
	return "long/" + strings.Repeat("n", (n-6)/2) + "/" + strings.Repeat("m", n-6-(n-6)/2)
}

// digits answers an id in digits.
func digits(id api.Id) string { return fmt.Sprintf("%x", id[:]) }

// idOf answers the id of an object.
func idOf(o api.Object) api.Id {
	word := []string{"", "commit", "tree", "blob", "tag"}[o.Kind]
	return sha256.Sum256(append([]byte(word+" "+strconv.Itoa(len(o.Data))+"\x00"), o.Data...))
}

// blob answers a blob with these bytes.
func blob(text string) api.Object { return api.Object{Kind: api.Blob, Data: []byte(text)} }

// slot answers the slot that is told: a path, a blank and its text. A path with * behind it has the mode ModeExec, with @
// ModeLink; one with 1: to 3: ahead of it that stage.
func slot(one string) api.Slot {
	path, text, _ := strings.Cut(one, " ")
	s := api.Slot{Mode: api.ModeFile, Id: idOf(blob(text))}
	if stage, rest, is := strings.Cut(path, ":"); is {
		s.Stage, _ = strconv.Atoi(stage)
		path = rest
	}
	if rest, is := strings.CutSuffix(path, "*"); is {
		s.Mode, path = api.ModeExec, rest
	}
	if rest, is := strings.CutSuffix(path, "@"); is {
		s.Mode, path = api.ModeLink, rest
	}
	s.Path = path
	return s
}

// slots answers the slots that are told, as they stand.
func slots(list ...string) []api.Slot {
	var l []api.Slot
	for _, one := range list {
		l = append(l, slot(one))
	}
	return l
}

// sized answers slots with a Size and a Time, bare without.
func sized(l []api.Slot) []api.Slot {
	l = slices.Clone(l)
	for i := range l {
		l[i].Size, l[i].Time = 7, 9
	}
	return l
}

func bare(l []api.Slot) []api.Slot {
	l = slices.Clone(l)
	for i := range l {
		l[i].Size, l[i].Time = 0, 0
	}
	return l
}

// patched answers files of which some are others: those of nil bytes are gone.
func patched(files []api.File, with map[string][]byte) []api.File {
	all := map[string][]byte{}
	for _, f := range files {
		all[f.Path] = f.Data
	}
	for path, data := range with {
		if data == nil {
			delete(all, path)
		} else {
			all[path] = data
		}
	}
	var list []api.File
	for _, path := range slices.Sorted(maps.Keys(all)) {
		list = append(list, api.File{Path: path, Data: all[path]})
	}
	return list
}

// having answers files with one more, or another one, without files with one less.
func having(files []api.File, path, text string) []api.File {
	return patched(files, map[string][]byte{path: append([]byte{}, text...)})
}

func without(files []api.File, path string) []api.File {
	return patched(files, map[string][]byte{path: nil})
}

// working answers files whose worktree has, beside what it has, files that are told: a path, a blank and a text.
func working(files []api.File, list ...string) []api.File {
	for _, one := range list {
		path, text, _ := strings.Cut(one, " ")
		files = having(files, "work/"+path, text)
	}
	return files
}

// indexed answers files whose index has slots.
func indexed(files []api.File, l []api.Slot) []api.File {
	p, e := index.Put(l)
	if e != api.OK {
		panic(fmt.Sprintf("index.Put: error %d", e))
	}
	return patched(files, map[string][]byte{"index": p})
}

// stored answers files with objects, and their ids.
func stored(files []api.File, list ...api.Object) ([]api.File, []api.Id) {
	changes, ids, e := odb.Put(files, list)
	if e != api.OK {
		panic(fmt.Sprintf("odb.Put: error %d", e))
	}
	files, e = odb.Made(files, changes)
	if e != api.OK {
		panic(fmt.Sprintf("odb.Made: error %d", e))
	}
	return files, ids
}

// referring answers files with a reference; one with neither Id nor Target is gone.
func referring(files []api.File, r api.Ref) []api.File {
	changes, e := refs.Update(files, []refs.Edit{{Ref: r, Any: true}}, me(3), "by hand")
	if e != api.OK {
		panic(fmt.Sprintf("refs.Update: error %d", e))
	}
	files, _ = odb.Made(files, changes)
	return files
}

// tipped answers files with the branch main at a commit.
func tipped(files []api.File, id api.Id) []api.File {
	return referring(files, api.Ref{Name: mainName, Id: id})
}

// grown answers files with a commit of the slots that are told, with their blobs, and its id. Its message is what, its
// author another one than its committer.
func grown(files []api.File, what string, parents []api.Id, list ...string) ([]api.File, api.Id) {
	all, root, e := trees.Build(slots(list...))
	if e != api.OK {
		panic(fmt.Sprintf("trees.Build: error %d", e))
	}
	for _, one := range list {
		_, text, _ := strings.Cut(one, " ")
		all = append(all, blob(text))
	}
	return pointing(files, what, parents, root, all...)
}

// pointing answers files with objects and a commit of a tree, and its id.
func pointing(files []api.File, what string, parents []api.Id, root api.Id, all ...api.Object) ([]api.File, api.Id) {
	p, e := object.PutCommit(api.Snapshot{Tree: root, Parents: parents, Author: you(len(what)), Committer: me(2), Message: what})
	if e != api.OK {
		panic(fmt.Sprintf("object.PutCommit: error %d", e))
	}
	files, ids := stored(files, append(all, api.Object{Kind: api.Commit, Data: p})...)
	return files, ids[len(ids)-1]
}

// ids answers a list of ids.
func ids(list ...api.Id) []api.Id { return list }

// place answers the path of a blob's file.
func place(text string) string { return loose.Place(idOf(blob(text))) }

// begun answers the files of Init.
func begun() []api.File {
	files, e := repo.Init(me(1))
	if e != api.OK {
		panic(fmt.Sprintf("repo.Init: error %d", e))
	}
	return files
}

// standing answers files whose tip is a commit; index and worktree have the slots that are told, which are its ones.
func standing(files []api.File, tip api.Id, list ...string) []api.File {
	files = indexed(tipped(files, tip), sized(slots(list...)))
	for _, one := range list {
		_, text, _ := strings.Cut(one, " ")
		files = working(files, slot(one).Path+" "+text)
	}
	return files
}

// twoSides answers a repository whose tip, ours, and another commit, theirs, have one parent, from; each has the slots
// that are told, one a line.
func twoSides(from, ours, theirs string) ([]api.File, api.Id, api.Id, api.Id) {
	lines := func(text string) []string {
		if text == "" {
			return nil
		}
		return strings.Split(text, "|")
	}
	files, a := grown(begun(), "from", nil, lines(from)...)
	files, c := grown(files, "theirs", ids(a), lines(theirs)...)
	files, b := grown(files, "ours", ids(a), lines(ours)...)
	return standing(files, b, lines(ours)...), a, b, c
}

// sameFiles answers whether two lists are the same.
func sameFiles(a, b []api.File) bool {
	return slices.EqualFunc(a, b, func(x, y api.File) bool { return x.Path == y.Path && bytes.Equal(x.Data, y.Data) })
}

// differing tells where two lists of files differ.
func differing(a, b []api.File) string {
	var text strings.Builder
	in := func(files []api.File, f api.File) bool {
		return slices.ContainsFunc(files, func(g api.File) bool { return g.Path == f.Path && bytes.Equal(g.Data, f.Data) })
	}
	for _, f := range a {
		if !in(b, f) {
			fmt.Fprintf(&text, "has %s %.80q; ", f.Path, f.Data)
		}
	}
	for _, f := range b {
		if !in(a, f) {
			fmt.Fprintf(&text, "hasn't %s %.80q; ", f.Path, f.Data)
		}
	}
	return text.String()[:min(text.Len(), 2000)]
}

// call is a call that changes files.
type call func(files []api.File) ([]api.File, bool, api.Errno)

// command is a command of a sequence: as the package makes it, and by the chapter's words.
type command struct {
	what       string
	run, plain call // no plain: it isn't held against the words
}

// silently answers a call whose command doesn't say whether it is done.
func silently(run func(files []api.File, who api.Ident) ([]api.File, api.Errno), who api.Ident) call {
	return func(files []api.File) ([]api.File, bool, api.Errno) {
		made, e := run(files, who)
		return made, false, e
	}
}

// by answers a call that is told nothing but who makes it.
func by(run func(files []api.File, who api.Ident) ([]api.File, bool, api.Errno), who api.Ident) call {
	return func(files []api.File) ([]api.File, bool, api.Errno) { return run(files, who) }
}

func merge(id api.Id) command { return mergeBy(me(11), id) }

func mergeBy(who api.Ident, id api.Id) command {
	return command{"Merge " + digits(id)[:8],
		func(files []api.File) ([]api.File, bool, api.Errno) { return seq.Merge(files, id, who) },
		func(files []api.File) ([]api.File, bool, api.Errno) { return plainMerge(files, id, who) }}
}

func pick(list ...api.Id) command { return pickBy(me(12), list...) }

func pickBy(who api.Ident, list ...api.Id) command {
	return command{fmt.Sprintf("Pick of %d", len(list)),
		func(files []api.File) ([]api.File, bool, api.Errno) { return seq.Pick(files, list, who) },
		func(files []api.File) ([]api.File, bool, api.Errno) { return plainPick(files, list, who) }}
}

func rebase(id api.Id) command { return rebaseBy(me(13), id) }

func rebaseBy(who api.Ident, id api.Id) command {
	return command{"Rebase " + digits(id)[:8],
		func(files []api.File) ([]api.File, bool, api.Errno) { return seq.Rebase(files, id, who) },
		func(files []api.File) ([]api.File, bool, api.Errno) { return plainRebase(files, id, who) }}
}

func goOn() command { return goOnBy(me(14)) }

func goOnBy(who api.Ident) command {
	return command{"Continue", by(seq.Continue, who), by(plainContinue, who)}
}

func skip() command { return skipBy(me(15)) }

func skipBy(who api.Ident) command {
	return command{"Skip", by(seq.Skip, who), by(plainSkip, who)}
}

func abort() command { return abortBy(me(16)) }

func abortBy(who api.Ident) command {
	return command{"Abort", silently(seq.Abort, who), silently(plainAbort, who)}
}

func stash() command { return stashBy(me(17)) }

func stashBy(who api.Ident) command {
	return command{"Stash", silently(seq.Stash, who), silently(plainStash, who)}
}

func pop() command { return popBy(me(18)) }

func popBy(who api.Ident) command {
	return command{"Pop", by(seq.Pop, who), by(plainPop, who)}
}

// wantPlain fails unless a command answers what the chapter's words do, byte by byte; it answers that.
func wantPlain(t *testing.T, what string, files []api.File, c command) ([]api.File, bool, api.Errno) {
	t.Helper()
	made, done, e := c.run(files)
	wanted, wantedDone, errno := made, done, e
	if c.plain != nil {
		wanted, wantedDone, errno = c.plain(files)
	}
	if e != errno || done != wantedDone || !sameFiles(made, wanted) {
		t.Fatalf("%s, %s: error %d, %v, wanted error %d, %v; it %s", what, c.what, e, done, errno, wantedDone, differing(made, wanted))
	}
	if e == api.OK && !slices.IsSortedFunc(made, func(a, b api.File) int { return strings.Compare(a.Path, b.Path) }) {
		t.Fatalf("%s, %s: files that are not in order", what, c.what)
	}
	wantTodo(t, what, made)
	return made, done, e
}

// wantDone fails unless commands, one behind the other, are done, and answer what the chapter's words do; it answers the
// files behind the last one.
func wantDone(t *testing.T, what string, files []api.File, list ...command) []api.File {
	t.Helper()
	for _, c := range list {
		made, done, e := wantPlain(t, what, files, c)
		silent := c.what == "Abort" || c.what == "Stash"
		if e != api.OK || done == silent {
			t.Fatalf("%s, %s: %v, error %d", what, c.what, done, e)
		}
		if _, busy := textOf(made, "seq"); busy {
			t.Fatalf("%s, %s: done, and there is a file seq", what, c.what)
		}
		files = made
	}
	return files
}

// alone answers a command that isn't held against the chapter's words: where it has very much to do.
func alone(c command) command { return command{c.what, c.run, nil} }

// wantStopped fails unless a command stops with these still to do, and answers what the chapter's words do; it answers
// the files.
func wantStopped(t *testing.T, what string, files []api.File, c command, word string, start api.Id, todo ...api.Id) []api.File {
	t.Helper()
	made, done, e := wantPlain(t, what, files, c)
	if done || e != api.OK {
		t.Fatalf("%s, %s: %v, error %d, wanted that it stops", what, c.what, done, e)
	}
	wanted := word + "\n" + digits(start) + "\n"
	for _, id := range todo {
		wanted += digits(id) + "\n"
	}
	if text, _ := textOf(made, "seq"); text != wanted {
		t.Fatalf("%s, %s: the file seq is %q, wanted %q", what, c.what, text, wanted)
	}
	return made
}

// wantError fails unless a command answers that error alone, and the chapter's words do.
func wantError(t *testing.T, what string, files []api.File, c command, wanted api.Errno) {
	t.Helper()
	made, done, e := wantPlain(t, what, files, c)
	if e != wanted || len(made) != 0 || done {
		t.Errorf("%s, %s: %d files, %v, error %d, wanted error %d alone", what, c.what, len(made), done, e, wanted)
	}
}

// textOf answers the bytes of a file, and whether it is there.
func textOf(files []api.File, path string) (string, bool) {
	for _, f := range files {
		if f.Path == path {
			return string(f.Data), true
		}
	}
	return "", false
}

// wantIndex fails unless the index has just the slots that are told, but for Size and Time.
func wantIndex(t *testing.T, what string, files []api.File, list ...string) {
	t.Helper()
	if l, e := repo.Index(files); e != api.OK || !slices.Equal(bare(l), slots(list...)) {
		t.Errorf("%s: the index has %v, error %d, wanted %q", what, l, e, list)
	}
}

// wantWork fails unless the worktree has just the files that are told: a path, a blank and a text.
func wantWork(t *testing.T, what string, files []api.File, list ...string) {
	t.Helper()
	l, e := repo.Work(files)
	var told []string
	for _, f := range l {
		told = append(told, f.Path+" "+string(f.Data))
	}
	if e != api.OK || !slices.Equal(told, list) {
		t.Errorf("%s: the worktree has %q, error %d, wanted %q", what, told, e, list)
	}
}

// wantStatus fails unless Status answers what is told, each as both letters, a blank and a path.
func wantStatus(t *testing.T, what string, files []api.File, list ...string) {
	t.Helper()
	l, e := repo.Status(files)
	var told []string
	for _, s := range l {
		told = append(told, string([]byte{s.Staged, s.Work})+" "+s.Path)
	}
	if e != api.OK || !slices.Equal(told, list) {
		t.Errorf("%s: Status is %q, error %d, wanted %q", what, told, e, list)
	}
}

// tipOf answers the tip.
func tipOf(files []api.File) api.Id {
	_, tip, _ := repo.Head(files)
	return tip
}

// wantTip fails unless the tip is that.
func wantTip(t *testing.T, what string, files []api.File, wanted api.Id) {
	t.Helper()
	if name, tip, e := repo.Head(files); name != mainName || tip != wanted || e != api.OK {
		t.Errorf("%s: HEAD is %q, %x, error %d, wanted %x", what, name, tip[:4], e, wanted[:4])
	}
}

// wantCommit fails unless a commit has these parents, author, committer and message, and its tree the slots that are told.
func wantCommit(t *testing.T, what string, files []api.File, id api.Id, wanted api.Snapshot, list ...string) {
	t.Helper()
	o, e := odb.Get(files, id)
	if e != api.OK {
		t.Fatalf("%s: no commit, error %d", what, e)
	}
	c, e := object.ParseCommit(o.Data)
	l, _ := trees.Flatten(files, c.Tree)
	if e != api.OK || !slices.Equal(c.Parents, wanted.Parents) || c.Author != wanted.Author || c.Committer != wanted.Committer ||
		c.Message != wanted.Message || !slices.Equal(l, slots(list...)) {
		t.Errorf("%s: the commit is %v with %v, error %d, wanted %v with %q", what, c, l, e, wanted, list)
	}
}

// wantNotes fails unless the newest notes of a name have these messages, and lead one to another, the last one from an id
// to another.
func wantNotes(t *testing.T, what string, files []api.File, name string, from, to api.Id, messages ...string) {
	t.Helper()
	l, e := refs.Notes(files, name)
	if e != api.OK || len(l) < len(messages) {
		t.Fatalf("%s: the notes of %s: %v, error %d", what, name, l, e)
	}
	l = l[:len(messages)]
	id := to
	for i, n := range l {
		if n.New != id || n.Message != messages[i] {
			t.Errorf("%s: a note of %s is %v, wanted one to %x, %q", what, name, n, id[:4], messages[i])
		}
		id = n.Old
	}
	if id != from {
		t.Errorf("%s: the notes of %s begin at %x, wanted %x", what, name, id[:4], from[:4])
	}
}

// rootOf answers the tree of a commit.
func rootOf(files []api.File, id api.Id) api.Id {
	c, _ := base.Commit(files, id)
	return c.Tree
}
