// Package agenda is the file seq, which says what sequence is under way, and what it has still to do: see shared/doc/25-seq.md.
package agenda

import (
	"strings"

	"codicil/api"
	"codicil/filelist"
	"codicil/repo"
	"codicil/sha"
)

// The words of what may be under way.
const (
	Merge  = "merge"
	Pick   = "pick"
	Rebase = "rebase"
)

const lineEnd = "\n"

// Agenda is a sequence under way.
type Agenda struct {
	Word  string
	Start api.Id   // the tip at the beginning
	Todo  []api.Id // the one that stopped first
}

// Of answers the agenda that files have, and whether they have one. ErrForm: their file says none.
func Of(files []api.File) (Agenda, bool, api.Errno) {
	at, there := filelist.Find(files, repo.SeqPath)
	if !there {
		return Agenda{}, false, api.OK
	}
	a, errno := parse(string(files[at].Data))
	if errno != api.OK {
		return Agenda{}, false, errno
	}
	return a, true, api.OK
}

// parse answers the agenda of a text.
func parse(text string) (Agenda, api.Errno) {
	lines := strings.Split(text, lineEnd)
	last := len(lines) - 1
	// Behind the last line's end stands nothing; ahead of it the word and at least two ids.
	if last < 3 || lines[last] != "" {
		return Agenda{}, api.ErrForm
	}
	ids := make([]api.Id, 0, last-1)
	for _, line := range lines[1:last] {
		id, errno := sha.Parse(line)
		if errno != api.OK {
			return Agenda{}, api.ErrForm
		}
		ids = append(ids, id)
	}
	a := Agenda{Word: strings.Clone(lines[0]), Start: ids[0], Todo: ids[1:]}
	if !a.mayBe() {
		return Agenda{}, api.ErrForm
	}
	return a, api.OK
}

// mayBe answers whether what is under way can have so much to do.
func (a Agenda) mayBe() bool {
	switch a.Word {
	case Merge:
		return len(a.Todo) == 1
	case Pick, Rebase:
		return len(a.Todo) <= api.MaxSteps
	}
	return false
}

// Text answers the bytes of an agenda's file.
func (a Agenda) Text() []byte {
	lines := []string{a.Word, sha.Hex(a.Start)}
	for _, id := range a.Todo {
		lines = append(lines, sha.Hex(id))
	}
	return []byte(strings.Join(lines, lineEnd) + lineEnd)
}
