package repo

import (
	"slices"
	"strings"

	"codicil/api"
)

// State is how a path stands: in the index against the tip, in the worktree against the index.
type State struct {
	Path         string
	Staged, Work byte
}

// What the letters of a State say.
const (
	asItWas = ' '
	added   = 'A'
	deleted = 'D'
	changed = 'M'
	clashes = 'U'
	unknown = '?'
)

// Status answers the paths, rising, that aren't alike in the tip, the index and the worktree.
func Status(files []api.File) ([]State, api.Errno) {
	r, errno := Open(files)
	if errno != api.OK {
		return nil, errno
	}
	tip, errno := r.TipSlots()
	if errno != api.OK {
		return nil, errno
	}
	paths := slices.Concat(pathsOf(tip), pathsOf(r.Slots), r.workPaths())
	slices.Sort(paths)
	var list []State
	for _, path := range slices.Compact(paths) {
		s := State{Path: strings.Clone(path), Staged: r.staged(tip, path), Work: r.worked(path)}
		if s.Staged != asItWas || s.Work != asItWas {
			list = append(list, s)
		}
	}
	return list, api.OK
}

// staged answers how a path stands in the index against the tip's slots.
func (r *Repository) staged(tip []api.Slot, path string) byte {
	now, has := r.slot(path)
	was, had := slotOf(tip, path)
	switch {
	case now.Stage != 0:
		return clashes
	case has && !had:
		return added
	case had && !has:
		return deleted
	case !Alike(now, was):
		return changed
	}
	return asItWas
}

// worked answers how a path stands in the worktree against the index.
func (r *Repository) worked(path string) byte {
	s, has := r.slot(path)
	_, there := r.File(path)
	switch {
	case there && !has:
		return unknown
	case has && !there:
		return deleted
	case has && !r.Clean(s):
		return changed
	}
	return asItWas
}
