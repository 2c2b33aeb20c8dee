package shell_test

import (
	"bytes"
	"fmt"
	"slices"
	"strings"
	"testing"

	"codicil/api"
	"codicil/base"
	"codicil/fs"
	"codicil/maint"
	"codicil/refs"
	"codicil/repo"
	"codicil/seq"
	"codicil/sha"
	"codicil/shell"
)

// quota is great enough for all that is done here.
const quota = 1 << 24

// me is who gives commands; at answers who does at a time.
func me() api.Ident { return api.Ident{Name: "A B", Email: "a@b", Zone: 60} }

func at(now int) api.Ident {
	who := me()
	who.Time = now
	return who
}

// newDisk answers a disk.
func newDisk(t *testing.T) *fs.Disk {
	t.Helper()
	d, e := fs.New(quota)
	if e != api.OK {
		t.Fatalf("fs.New: error %d", e)
	}
	return d
}

// opened answers the shell of a disk.
func opened(t *testing.T, d *fs.Disk) *shell.Shell {
	t.Helper()
	s, e := shell.Open(d, me())
	if e != api.OK || s == nil {
		t.Fatalf("Open: %v, error %d", s, e)
	}
	return s
}

// filesOf answers a shell's files.
func filesOf(t *testing.T, s *shell.Shell) []api.File {
	t.Helper()
	files, e := s.Files()
	if e != api.OK {
		t.Fatalf("Files: error %d", e)
	}
	return files
}

// holding answers a disk that holds files.
func holding(t *testing.T, files []api.File) *fs.Disk {
	t.Helper()
	d := newDisk(t)
	for _, f := range files {
		path := "data/" + f.Path
		if d.Create(path) != api.OK || d.Append(path, f.Data) != api.OK || d.Sync(path) != api.OK || d.SyncDir(path[:strings.LastIndex(path, "/")]) != api.OK {
			t.Fatalf("%s can't be made", f.Path)
		}
	}
	return d
}

// sameFiles answers whether two lists are the same.
func sameFiles(a, b []api.File) bool {
	return slices.EqualFunc(a, b, func(x, y api.File) bool { return x.Path == y.Path && bytes.Equal(x.Data, y.Data) })
}

// step is a command of a script.
type step struct {
	words []string
	data  string
	now   int
}

// told answers a step that is told: words with blanks between, and behind a bar the bytes of a file.
func told(text string, now int) step {
	words, data, _ := strings.Cut(text, "|")
	return step{strings.Fields(words), data, now}
}

// script answers steps, at times one behind the other.
func script(list ...string) []step {
	var all []step
	for i, text := range list {
		all = append(all, told(text, i+10))
	}
	return all
}

// do makes a step.
func (x step) do(s *shell.Shell) (string, api.Errno) { return s.Do(x.words, []byte(x.data), x.now) }

// plainId answers by the chapter's words the id that a word tells.
func plainId(files []api.File, word string) (api.Id, api.Errno) {
	if id, e := sha.Parse(word); e == api.OK {
		return id, api.OK
	}
	_, tip, e := repo.Head(files)
	if e != api.OK {
		return api.Id{}, e
	}
	id := tip
	if r, e := refs.Get(files, "refs/heads/"+word); e == api.OK {
		id = r.Id
	} else if word != "HEAD" {
		return api.Id{}, api.ErrNone
	}
	if id == (api.Id{}) {
		return api.Id{}, api.ErrNone
	}
	return id, api.OK
}

// ended answers how a command of a sequence ends.
func ended(files []api.File, done bool, e api.Errno) ([]api.File, string, api.Errno) {
	text := "stopped"
	if done {
		text = "done"
	}
	return files, text, e
}

// plainDo answers by the chapter's words the files behind a step, and what it tells.
func plainDo(files []api.File, x step) ([]api.File, string, api.Errno) {
	counts := map[string]int{"write": 2, "erase": 2, "add": 2, "commit": 2, "branch": 3, "switch": 2, "reset": 3, "merge": 2, "rebase": 2, "pick": 2, "continue": 1,
		"skip": 1, "pop": 1, "abort": 1, "stash": 1, "gc": 2, "fsck": 1, "status": 1, "log": 2}
	if len(x.words) == 0 || counts[x.words[0]] != len(x.words) {
		return nil, "", api.ErrWord
	}
	if x.now < 0 || x.now > 4294967295 {
		return nil, "", api.ErrArg
	}
	made, text, e := plainCommand(files, x, append(x.words, "", "")[1], append(x.words, "", "")[2])
	if e != api.OK {
		return nil, "", e
	}
	return made, text, api.OK
}

// plainCommand answers so of a command that there is, with its words behind.
func plainCommand(files []api.File, x step, a, b string) ([]api.File, string, api.Errno) {
	silent := func(files []api.File, e api.Errno) ([]api.File, string, api.Errno) { return files, "", e }
	who := at(x.now)
	idWord := a
	if x.words[0] == "branch" || x.words[0] == "reset" {
		idWord = b
	}
	way := slices.Index([]string{"soft", "mixed", "hard"}, a)
	if x.words[0] == "reset" && way < 0 {
		return nil, "", api.ErrArg
	}
	var id api.Id
	if slices.Contains([]string{"branch", "reset", "merge", "rebase", "pick", "log"}, x.words[0]) {
		var e api.Errno
		if id, e = plainId(files, idWord); e != api.OK {
			return nil, "", e
		}
	}
	switch x.words[0] {
	case "write":
		return silent(repo.Write(files, a, []byte(x.data)))
	case "erase":
		return silent(repo.Erase(files, a))
	case "add":
		return silent(repo.Add(files, a, x.now))
	case "commit":
		made, id, e := repo.Commit(files, who, a)
		return made, fmt.Sprintf("%x", id[:]), e
	case "branch":
		return silent(repo.Branch(files, a, id, who))
	case "switch":
		return silent(repo.Switch(files, a, who))
	case "reset":
		return silent(repo.Reset(files, way, id, who))
	case "merge":
		return ended(seq.Merge(files, id, who))
	case "rebase":
		return ended(seq.Rebase(files, id, who))
	case "pick":
		return ended(seq.Pick(files, []api.Id{id}, who))
	case "continue":
		return ended(seq.Continue(files, who))
	case "skip":
		return ended(seq.Skip(files, who))
	case "pop":
		return ended(seq.Pop(files, who))
	case "abort":
		return silent(seq.Abort(files, who))
	case "stash":
		return silent(seq.Stash(files, who))
	case "gc":
		keep := 0
		if a == "" || len(a) > 10 || strings.Trim(a, "0123456789") != "" {
			return nil, "", api.ErrArg
		}
		fmt.Sscan(strings.TrimLeft(a, "0")+" ", &keep)
		return silent(maint.Gc(files, x.now, keep))
	case "fsck":
		if len(maint.Fsck(files)) > 0 {
			return files, "problems", api.OK
		}
		return files, "clean", api.OK
	case "status":
		list, e := repo.Status(files)
		text := ""
		for _, s := range list {
			text += string([]byte{s.Staged, s.Work}) + " " + s.Path + "\n"
		}
		return files, text, e
	}
	list, e := base.Walk(files, []api.Id{id})
	text := ""
	for _, id := range list {
		text += fmt.Sprintf("%x\n", id[:])
	}
	return files, text, e
}

// wantDone fails unless a step answers what the chapter's words do, and the files are theirs; it answers text and error.
func wantDone(t *testing.T, what string, s *shell.Shell, x step) (string, api.Errno) {
	t.Helper()
	before := filesOf(t, s)
	wanted, wantedText, errno := plainDo(before, x)
	if errno != api.OK {
		wanted, wantedText = before, ""
	}
	text, e := x.do(s)
	if text != wantedText || e != errno {
		t.Fatalf("%s, %q: %q, error %d, wanted %q, error %d", what, x.words, text, e, wantedText, errno)
	}
	if got := filesOf(t, s); !sameFiles(got, wanted) {
		t.Fatalf("%s, %q: the files are others", what, x.words)
	}
	return text, e
}

// wantOK does so of steps without an error.
func wantOK(t *testing.T, what string, s *shell.Shell, list ...step) {
	t.Helper()
	for _, x := range list {
		if text, e := wantDone(t, what, s, x); e != api.OK {
			t.Fatalf("%s, %q: %q, error %d", what, x.words, text, e)
		}
	}
}

// wantText fails unless a step answers a text.
func wantText(t *testing.T, what string, s *shell.Shell, x step, wanted string) {
	t.Helper()
	if text, e := wantDone(t, what, s, x); text != wanted || e != api.OK {
		t.Errorf("%s, %q: %q, error %d, wanted %q", what, x.words, text, e, wanted)
	}
}

// wantError fails unless a step answers an error alone.
func wantError(t *testing.T, what string, s *shell.Shell, x step, wanted api.Errno) {
	t.Helper()
	if text, e := wantDone(t, what, s, x); text != "" || e != wanted {
		t.Errorf("%s, %q: %q, error %d, wanted error %d", what, x.words, text, e, wanted)
	}
}
