package refs

import (
	"cmp"
	"slices"
	"strconv"
	"strings"

	"codicil/api"
	"codicil/filelist"
	"codicil/reftable"
)

const (
	folder     = "reftable/"
	listPath   = folder + "tables.list"
	tableEnd   = ".ref"
	lineEnd    = "\n"
	leastCount = 12 // of the digits of a number in a table's name
)

// stack is what the tables that files have say together.
type stack struct {
	names []string   // of the tables, the oldest first
	last  int        // the greatest number, 0 without a table
	refs  []api.Ref  // that are there, by names
	notes []api.Note // of all tables, by names, and the newest first
}

// openStack answers the stack of files.
func openStack(files []api.File) (*stack, api.Errno) {
	if !filelist.InOrder(files) {
		return nil, api.ErrForm
	}
	list, readable := tableNames(files)
	if !readable {
		return nil, api.ErrForm
	}
	s := &stack{}
	for _, name := range list {
		if !s.push(files, name) {
			return nil, api.ErrForm
		}
	}
	return s, api.OK
}

// tableNames answers the names that the list of tables has, and whether each one has its line feed.
func tableNames(files []api.File) ([]string, bool) {
	at, there := filelist.Find(files, listPath)
	if !there {
		return nil, true
	}
	lines := strings.Split(string(files[at].Data), lineEnd)
	last := len(lines) - 1
	return lines[:last], lines[last] == ""
}

// push lays the table of a name upon the others, if it may stand there.
func (s *stack) push(files []api.File, name string) bool {
	at, there := filelist.Find(files, folder+name)
	if !there {
		return false
	}
	refs, notes, first, last, errno := reftable.Read(files[at].Data)
	if errno != api.OK || first != s.last+1 || name != tableName(first, last) {
		return false
	}
	s.names = append(s.names, name)
	s.last = last
	s.layRefs(refs)
	s.layNotes(notes)
	return true
}

// tableName answers the name of the table of the numbers first to last.
func tableName(first, last int) string {
	return digits(first) + "-" + digits(last) + tableEnd
}

// digits answers a number in decimal digits, with noughts in front. Above what twelve digits can tell it has those that it needs.
func digits(n int) string {
	text := strconv.Itoa(n)
	return strings.Repeat("0", max(0, leastCount-len(text))) + text
}

// layRefs makes newer references count in the place of those that have the same names.
func (s *stack) layRefs(newer []api.Ref) {
	// Sorting keeps the order of one name's references, so the newest is the last of them.
	all := slices.Concat(s.refs, newer)
	slices.SortStableFunc(all, func(a, b api.Ref) int { return strings.Compare(a.Name, b.Name) })
	var there []api.Ref
	for i, r := range all {
		newest := i == len(all)-1 || all[i+1].Name != r.Name
		if newest && !isGone(r) {
			there = append(there, r)
		}
	}
	s.refs = there
}

// isGone answers whether a record says that its reference is gone.
func isGone(r api.Ref) bool {
	return r.Id == (api.Id{}) && r.Target == ""
}

// layNotes puts further notes among the others.
func (s *stack) layNotes(more []api.Note) {
	s.notes = slices.Concat(s.notes, more)
	sortNotes(s.notes)
}

// sortNotes orders notes by names, and those of one name the newest first.
func sortNotes(notes []api.Note) {
	slices.SortFunc(notes, func(a, b api.Note) int {
		return cmp.Or(strings.Compare(a.Name, b.Name), cmp.Compare(b.Index, a.Index))
	})
}

// find answers the reference of a name, and whether there is one.
func (s *stack) find(name string) (api.Ref, bool) {
	at, there := slices.BinarySearchFunc(s.refs, name, func(r api.Ref, name string) int { return strings.Compare(r.Name, name) })
	if !there {
		return api.Ref{}, false
	}
	return s.refs[at], true
}

// idOf answers the Id that a reference has; all 0, if it isn't there or has a Target.
func (s *stack) idOf(name string) api.Id {
	r, _ := s.find(name)
	return r.Id
}
