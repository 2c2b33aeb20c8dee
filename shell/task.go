package shell

import (
	"strconv"

	"codicil/api"
	"codicil/base"
	"codicil/maint"
	"codicil/repo"
	"codicil/seq"
	"codicil/sha"
)

const (
	branchFolder = "refs/heads/"
	headWord     = "HEAD"
	maxDigits    = 10 // of how long notes are kept
)

// What commands tell.
const (
	nothing  = ""
	done     = "done"
	stopped  = "stopped"
	clean    = "clean"
	problems = "problems"
)

// task is a command that is made: what it is told, and the files, which it makes be others.
type task struct {
	files []api.File
	words []string // behind the command's own
	data  []byte
	who   api.Ident
	now   int
}

// command is what a word asks for: how many words stand behind it, and what it does.
type command struct {
	words int
	run   func(t *task) (string, api.Errno)
}

// commands answers the commands by their words.
func commands() map[string]command {
	return map[string]command{
		"write":    {1, (*task).write},
		"erase":    {1, (*task).erase},
		"add":      {1, (*task).add},
		"commit":   {1, (*task).commit},
		"branch":   {2, (*task).branch},
		"switch":   {1, (*task).switchTo},
		"reset":    {2, (*task).reset},
		"merge":    {1, (*task).merge},
		"rebase":   {1, (*task).rebase},
		"pick":     {1, (*task).pick},
		"continue": {0, stepping(seq.Continue)},
		"skip":     {0, stepping(seq.Skip)},
		"pop":      {0, stepping(seq.Pop)},
		"abort":    {0, silent(seq.Abort)},
		"stash":    {0, silent(seq.Stash)},
		"gc":       {1, (*task).gc},
		"fsck":     {0, (*task).fsck},
		"status":   {0, (*task).status},
		"log":      {1, (*task).log},
	}
}

// commandOf answers what words ask for.
func commandOf(words []string) (func(t *task) (string, api.Errno), api.Errno) {
	if len(words) == 0 {
		return nil, api.ErrWord
	}
	c, there := commands()[words[0]]
	if !there || len(words)-1 != c.words {
		return nil, api.ErrWord
	}
	return c.run, api.OK
}

// take makes the files be those that a call answers; there is nothing to tell.
func (t *task) take(files []api.File, errno api.Errno) (string, api.Errno) {
	if errno != api.OK {
		return nothing, errno
	}
	t.files = files
	return nothing, api.OK
}

// takeStep makes the files be those that a call of a sequence answers, and tells whether that is done.
func (t *task) takeStep(files []api.File, all bool, errno api.Errno) (string, api.Errno) {
	if _, errno := t.take(files, errno); errno != api.OK {
		return nothing, errno
	}
	if all {
		return done, api.OK
	}
	return stopped, api.OK
}

// stepping and silent answer commands that are told nothing but who gives them.
func stepping(call func(files []api.File, who api.Ident) ([]api.File, bool, api.Errno)) func(t *task) (string, api.Errno) {
	return func(t *task) (string, api.Errno) { return t.takeStep(call(t.files, t.who)) }
}

func silent(call func(files []api.File, who api.Ident) ([]api.File, api.Errno)) func(t *task) (string, api.Errno) {
	return func(t *task) (string, api.Errno) { return t.take(call(t.files, t.who)) }
}

// id answers the id that a word tells: by its digits, as a branch's, or as the tip.
func (t *task) id(word string) (api.Id, api.Errno) {
	if id, errno := sha.Parse(word); errno == api.OK {
		return id, api.OK
	}
	r, errno := repo.Open(t.files)
	if errno != api.OK {
		return api.Id{}, errno
	}
	ref, there := r.Ref(branchFolder + word)
	id := ref.Id
	if !there && word == headWord {
		id = r.Tip
	}
	if id == (api.Id{}) {
		return api.Id{}, api.ErrNone
	}
	return id, api.OK
}

func (t *task) write() (string, api.Errno) { return t.take(repo.Write(t.files, t.words[0], t.data)) }

func (t *task) erase() (string, api.Errno) { return t.take(repo.Erase(t.files, t.words[0])) }

func (t *task) add() (string, api.Errno) { return t.take(repo.Add(t.files, t.words[0], t.now)) }

// commit tells the commit's id.
func (t *task) commit() (string, api.Errno) {
	files, id, errno := repo.Commit(t.files, t.who, t.words[0])
	if _, errno := t.take(files, errno); errno != api.OK {
		return nothing, errno
	}
	return sha.Hex(id), api.OK
}

func (t *task) branch() (string, api.Errno) {
	at, errno := t.id(t.words[1])
	if errno != api.OK {
		return nothing, errno
	}
	return t.take(repo.Branch(t.files, t.words[0], at, t.who))
}

func (t *task) switchTo() (string, api.Errno) {
	return t.take(repo.Switch(t.files, t.words[0], t.who))
}

func (t *task) reset() (string, api.Errno) {
	way, errno := wayOf(t.words[0])
	if errno != api.OK {
		return nothing, errno
	}
	at, errno := t.id(t.words[1])
	if errno != api.OK {
		return nothing, errno
	}
	return t.take(repo.Reset(t.files, way, at, t.who))
}

// wayOf answers the way of a reset that a word tells.
func wayOf(word string) (int, api.Errno) {
	switch word {
	case "soft":
		return 0, api.OK
	case "mixed":
		return 1, api.OK
	case "hard":
		return 2, api.OK
	}
	return 0, api.ErrArg
}

func (t *task) merge() (string, api.Errno) {
	id, errno := t.id(t.words[0])
	if errno != api.OK {
		return nothing, errno
	}
	return t.takeStep(seq.Merge(t.files, id, t.who))
}

func (t *task) rebase() (string, api.Errno) {
	onto, errno := t.id(t.words[0])
	if errno != api.OK {
		return nothing, errno
	}
	return t.takeStep(seq.Rebase(t.files, onto, t.who))
}

func (t *task) pick() (string, api.Errno) {
	id, errno := t.id(t.words[0])
	if errno != api.OK {
		return nothing, errno
	}
	return t.takeStep(seq.Pick(t.files, []api.Id{id}, t.who))
}

func (t *task) gc() (string, api.Errno) {
	keep, errno := seconds(t.words[0])
	if errno != api.OK {
		return nothing, errno
	}
	return t.take(maint.Gc(t.files, t.now, keep))
}

// seconds answers the number that a word tells by digits alone.
func seconds(word string) (int, api.Errno) {
	if len(word) > maxDigits {
		return 0, api.ErrArg
	}
	for i := range len(word) {
		if word[i] < '0' || word[i] > '9' {
			return 0, api.ErrArg
		}
	}
	n, err := strconv.Atoi(word)
	if err != nil {
		return 0, api.ErrArg
	}
	return n, api.OK
}

func (t *task) fsck() (string, api.Errno) {
	if len(maint.Fsck(t.files)) > 0 {
		return problems, api.OK
	}
	return clean, api.OK
}

// status tells a line for each path that isn't alike everywhere.
func (t *task) status() (string, api.Errno) {
	list, errno := repo.Status(t.files)
	if errno != api.OK {
		return nothing, errno
	}
	var text []byte
	for _, s := range list {
		text = append(text, s.Staged, s.Work, ' ')
		text = append(text, s.Path...)
		text = append(text, '\n')
	}
	return string(text), api.OK
}

// log tells a line for each commit.
func (t *task) log() (string, api.Errno) {
	id, errno := t.id(t.words[0])
	if errno != api.OK {
		return nothing, errno
	}
	list, errno := base.Walk(t.files, []api.Id{id})
	if errno != api.OK {
		return nothing, errno
	}
	var text []byte
	for _, id := range list {
		text = append(text, sha.Hex(id)...)
		text = append(text, '\n')
	}
	return string(text), api.OK
}
