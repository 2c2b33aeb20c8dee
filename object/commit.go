package object

import (
	"strings"

	"codicil/api"
	"codicil/names"
	"codicil/sha"
)

// PutCommit answers the bytes of the commit s.
func PutCommit(s api.Snapshot) ([]byte, api.Errno) {
	if errno := commitError(s); errno != api.OK {
		return nil, errno
	}
	author, _ := names.PutIdent(s.Author)
	committer, _ := names.PutIdent(s.Committer)
	p := putLine(nil, "tree", sha.Hex(s.Tree))
	for _, id := range s.Parents {
		p = putLine(p, "parent", sha.Hex(id))
	}
	p = putLine(p, "author", author)
	p = putLine(p, "committer", committer)
	return putMessage(p, s.Message), api.OK
}

// commitError answers, of the errors of a commit, the one with the least number.
func commitError(s api.Snapshot) api.Errno {
	switch {
	case len(s.Parents) > api.MaxParents || len(s.Message) > api.MaxText:
		return api.ErrLong
	case !names.Ident(s.Author) || !names.Ident(s.Committer):
		return api.ErrName
	case hasZero(s.Message):
		return api.ErrForm
	}
	return api.OK
}

// ParseCommit answers the commit that is written as p.
func ParseCommit(p []byte) (api.Snapshot, api.Errno) {
	return parse(p, readCommit, PutCommit)
}

// readCommit reads the lines of a commit one behind the other.
func readCommit(text string) api.Snapshot {
	var s api.Snapshot
	tree, text := cutLine(text, "tree")
	s.Tree, _ = sha.Parse(tree)
	for strings.HasPrefix(text, "parent ") {
		digits, behind := cutLine(text, "parent")
		id, _ := sha.Parse(digits)
		s.Parents = append(s.Parents, id)
		text = behind
	}
	author, text := cutLine(text, "author")
	s.Author, _ = names.ParseIdent(author)
	committer, text := cutLine(text, "committer")
	s.Committer, _ = names.ParseIdent(committer)
	s.Message = readMessage(text)
	return s
}

// commitLinks answers to what the commit that is written as p points.
func commitLinks(p []byte) ([]Link, api.Errno) {
	s, errno := ParseCommit(p)
	if errno != api.OK {
		return nil, errno
	}
	links := []Link{{api.Tree, s.Tree}}
	for _, id := range s.Parents {
		links = append(links, Link{api.Commit, id})
	}
	return links, api.OK
}
