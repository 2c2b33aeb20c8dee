package repo

import (
	"slices"
	"strings"

	"codicil/api"
	"codicil/base"
	"codicil/index"
	"codicil/names"
	"codicil/refs"
	"codicil/rename"
	"codicil/trees"
	"codicil/txfile"
)

// The ways of Reset: each does what those ahead of it do, too.
const (
	wayBranch = iota
	wayIndex
	wayWork
)

// Branch answers the files behind a branch more.
func Branch(files []api.File, name string, at api.Id, who api.Ident) ([]api.File, api.Errno) {
	return change(files, func(r *repository) ([]txfile.Change, api.Errno) {
		branch := branchFolder + name
		if !names.Ref(branch) {
			return nil, api.ErrName
		}
		if _, there := r.ref(branch); there {
			return nil, api.ErrExists
		}
		if _, errno := base.Commit(files, at); errno != api.OK {
			return nil, errno
		}
		return refs.Update(files, branchAt(branch, at), who, "branch")
	})
}

// Reset answers the files behind the branch being at another commit, with the index and the worktree by the way.
func Reset(files []api.File, way int, at api.Id, who api.Ident) ([]api.File, api.Errno) {
	return change(files, func(r *repository) ([]txfile.Change, api.Errno) { return r.reset(way, at, who) })
}

// reset answers the changes of Reset.
func (r *repository) reset(way int, at api.Id, who api.Ident) ([]txfile.Change, api.Errno) {
	if way < wayBranch || way > wayWork {
		return nil, api.ErrArg
	}
	commit, errno := base.Commit(r.files, at)
	switch {
	case errno != api.OK:
		return nil, errno
	case r.busy():
		return nil, api.ErrBusy
	}
	var list []txfile.Change
	if way != wayBranch {
		if list, errno = r.toTree(commit.Tree, way); errno != api.OK {
			return nil, errno
		}
	}
	moved, errno := refs.Update(r.files, branchAt(r.branch, at), who, "reset")
	if errno != api.OK {
		return nil, errno
	}
	return append(list, moved...), api.OK
}

// toTree answers the changes by which the index and, by the way, the worktree are as a tree has them.
func (r *repository) toTree(root api.Id, way int) ([]txfile.Change, api.Errno) {
	slots, errno := trees.Flatten(r.files, root)
	if errno != api.OK {
		return nil, errno
	}
	indexed, errno := indexOf(slots)
	if errno != api.OK {
		return nil, errno
	}
	if way != wayWork {
		return []txfile.Change{indexed}, api.OK
	}
	list, errno := r.toSlots(pathsOf(slices.Concat(r.slots, slots)), slots)
	if errno != api.OK {
		return nil, errno
	}
	return append(list, indexed), api.OK
}

// Switch answers the files behind HEAD naming another branch, index and worktree having what differs from the tip.
func Switch(files []api.File, name string, who api.Ident) ([]api.File, api.Errno) {
	return change(files, func(r *repository) ([]txfile.Change, api.Errno) { return r.switchTo(branchFolder+name, who) })
}

// switchTo answers the changes of Switch.
func (r *repository) switchTo(branch string, who api.Ident) ([]txfile.Change, api.Errno) {
	at, there := r.ref(branch)
	switch {
	case r.busy():
		return nil, api.ErrBusy
	case !there:
		return nil, api.ErrNone
	case !index.Settled(r.slots):
		return nil, api.ErrClash
	}
	ours, errno := r.tipSlots()
	if errno != api.OK {
		return nil, errno
	}
	theirs, errno := slotsAt(r.files, at.Id)
	if errno != api.OK {
		return nil, errno
	}
	list, errno := r.between(ours, theirs)
	if errno != api.OK {
		return nil, errno
	}
	moved, errno := refs.Update(r.files, headTo(branch), who, "switch")
	if errno != api.OK {
		return nil, errno
	}
	return append(list, moved...), api.OK
}

// between answers the changes by which index and worktree go from ours, the tip's slots, to theirs, where these are unlike.
func (r *repository) between(ours, theirs []api.Slot) ([]txfile.Change, api.Errno) {
	unlike, errno := rename.Changes(ours, theirs)
	if errno != api.OK {
		return nil, errno
	}
	if slices.ContainsFunc(unlike, r.dirty) {
		return nil, api.ErrDirty
	}
	var touched []string
	var come []api.Slot
	for _, c := range unlike {
		touched = append(touched, c.Path)
		if c.New.Path != "" {
			come = append(come, c.New)
		}
	}
	indexed, errno := indexOf(r.slotsWith(touched, come))
	if errno != api.OK {
		return nil, errno
	}
	list, errno := r.toSlots(touched, come)
	if errno != api.OK {
		return nil, errno
	}
	return append(list, indexed), api.OK
}

// dirty answers whether index or worktree have something of their own at a path, which Old says what the tip has of.
func (r *repository) dirty(c rename.Change) bool {
	s, has := r.slot(c.Path)
	_, there := r.file(c.Path)
	tipHas := c.Old.Path != ""
	switch {
	case has != tipHas:
		return true
	case has:
		return !alike(s, c.Old) || !r.clean(s)
	}
	return there
}

// slotsWith answers the index's slots, those of the paths that are touched being the ones that come.
func (r *repository) slotsWith(touched []string, come []api.Slot) []api.Slot {
	isTouched := setOf(touched)
	var list []api.Slot
	for _, s := range r.slots {
		if _, is := isTouched[s.Path]; !is {
			list = append(list, s)
		}
	}
	list = append(list, come...)
	slices.SortFunc(list, func(a, b api.Slot) int { return strings.Compare(a.Path, b.Path) })
	return list
}
