package refs

import (
	"bytes"
	"slices"
	"strings"

	"codicil/api"
	"codicil/fault"
	"codicil/filelist"
	"codicil/reftable"
	"codicil/txfile"
)

const (
	head      = "HEAD"
	maxEdits  = 64
	maxTables = 5
	maxNumber = 1 << 40
)

// Edit is a change of a reference: what it shall be, and what Id it must have till then (Any: whatever).
type Edit struct {
	Ref    api.Ref
	Expect api.Id
	Any    bool
}

// Update answers the changes by which references are as edits say, and their logs tell it.
func Update(files []api.File, edits []Edit, who api.Ident, message string) ([]txfile.Change, api.Errno) {
	s, errno := openStack(files)
	if errno != api.OK {
		return nil, errno
	}
	if errno := s.refuses(edits, who, message); errno != api.OK {
		return nil, errno
	}
	number := s.last + 1
	refs := editedRefs(edits)
	notes := s.notesOf(edits, api.Note{Index: number, Who: who, Message: message})
	if len(s.names) < maxTables {
		return changesTo(files, s.names, s.names, refs, notes, number, number)
	}
	s.layRefs(refs)
	s.layNotes(notes)
	return changesTo(files, s.names, nil, s.refs, s.notes, 1, number)
}

// Drop answers the changes by which one table is there, without the notes of a time below before.
func Drop(files []api.File, before int) ([]txfile.Change, api.Errno) {
	s, errno := openStack(files)
	if errno != api.OK || len(s.names) == 0 {
		return nil, errno
	}
	notes := slices.DeleteFunc(s.notes, func(n api.Note) bool { return n.Who.Time < before })
	return changesTo(files, s.names, nil, s.refs, notes, 1, s.last)
}

// refuses answers the least error that an update has.
func (s *stack) refuses(edits []Edit, who api.Ident, message string) api.Errno {
	switch {
	case len(edits) == 0:
		return api.ErrArg
	case len(edits) > maxEdits:
		return api.ErrLong
	}
	// A table of this one note has the errors of who and message alone, and one of an edit's reference that reference's.
	_, errno := reftable.Write(nil, []api.Note{{Name: head, Index: 1, Who: who, Message: message}}, 1, 1)
	for _, e := range edits {
		_, its := reftable.Write([]api.Ref{e.Ref}, nil, 1, 1)
		errno = fault.Least(errno, its)
	}
	switch {
	case errno != api.OK:
		return errno
	case nameTwice(edits):
		return api.ErrExists
	case s.last >= maxNumber:
		return api.ErrLimit
	case s.clashes(edits):
		return api.ErrClash
	}
	return api.OK
}

// nameTwice answers whether two edits have one name.
func nameTwice(edits []Edit) bool {
	refs := editedRefs(edits)
	return len(slices.CompactFunc(refs, func(a, b api.Ref) bool { return a.Name == b.Name })) < len(edits)
}

// clashes answers whether something else is there than an edit expects.
func (s *stack) clashes(edits []Edit) bool {
	return slices.ContainsFunc(edits, func(e Edit) bool { return !e.Any && s.idOf(e.Ref.Name) != e.Expect })
}

// editedRefs answers the references of edits, by names.
func editedRefs(edits []Edit) []api.Ref {
	refs := make([]api.Ref, 0, len(edits))
	for _, e := range edits {
		refs = append(refs, e.Ref)
	}
	slices.SortFunc(refs, func(a, b api.Ref) int { return strings.Compare(a.Name, b.Name) })
	return refs
}

// notesOf answers the notes that edits leave, by names, each made of plain.
func (s *stack) notesOf(edits []Edit, plain api.Note) []api.Note {
	branch := s.followedBranch(edits)
	var notes []api.Note
	for _, e := range edits {
		old := s.idOf(e.Ref.Name)
		if e.Ref.Target != "" || e.Ref.Id == old {
			continue
		}
		n := plain
		n.Name, n.Old, n.New = e.Ref.Name, old, e.Ref.Id
		notes = append(notes, n)
		if n.Name == branch {
			n.Name = head
			notes = append(notes, n)
		}
	}
	sortNotes(notes)
	return notes
}

// followedBranch answers the name whose notes HEAD has, too: its Target, unless it is edited itself.
func (s *stack) followedBranch(edits []Edit) string {
	if slices.ContainsFunc(edits, func(e Edit) bool { return e.Ref.Name == head }) {
		return ""
	}
	r, _ := s.find(head)
	return r.Target
}

// changesTo answers the changes by which a table of these references and notes, of the numbers first to last, stands upon
// the tables kept, in the place of all others that stood.
func changesTo(files []api.File, stood, kept []string, refs []api.Ref, notes []api.Note, first, last int) ([]txfile.Change, api.Errno) {
	data, errno := reftable.Write(refs, notes, first, last)
	if errno != api.OK {
		return nil, errno
	}
	stay := append(slices.Clone(kept), tableName(first, last))
	var list []txfile.Change
	for _, name := range stood {
		if !slices.Contains(stay, name) {
			list = append(list, txfile.Change{Path: folder + name, Gone: true})
		}
	}
	list = appendUnlessThere(list, files, folder+tableName(first, last), data)
	list = appendUnlessThere(list, files, strings.Clone(listPath), []byte(strings.Join(stay, lineEnd)+lineEnd))
	slices.SortFunc(list, func(a, b txfile.Change) int { return strings.Compare(a.Path, b.Path) })
	return list, api.OK
}

// appendUnlessThere puts the change by which a file has these bytes behind list itself, if it hasn't them yet.
func appendUnlessThere(list []txfile.Change, files []api.File, path string, data []byte) []txfile.Change {
	at, there := filelist.Find(files, path)
	if there && bytes.Equal(files[at].Data, data) {
		return list
	}
	return append(list, txfile.Change{Path: path, Data: data})
}
