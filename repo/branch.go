package repo

import (
	"codicil/api"
	"codicil/base"
	"codicil/index"
	"codicil/names"
	"codicil/refs"
	"codicil/trees"
	"codicil/txfile"
)

// The ways of Reset: each does what those ahead of it do, too.
const (
	wayBranch = iota
	wayIndex
	wayWork
)

// Branch answers the files behind a branch more.
func Branch(files []api.File, name string, at api.Id, who api.Ident) ([]api.File, api.Errno) {
	return change(files, func(r *Repository) ([]txfile.Change, api.Errno) {
		branch := branchFolder + name
		if !names.Ref(branch) {
			return nil, api.ErrName
		}
		if _, there := r.Ref(branch); there {
			return nil, api.ErrExists
		}
		if _, errno := base.Commit(files, at); errno != api.OK {
			return nil, errno
		}
		return refs.Update(files, branchAt(branch, at), who, "branch")
	})
}

// Reset answers the files behind the branch being at another commit, with the index and the worktree by the way.
func Reset(files []api.File, way int, at api.Id, who api.Ident) ([]api.File, api.Errno) {
	return change(files, func(r *Repository) ([]txfile.Change, api.Errno) { return r.reset(way, at, who) })
}

// reset answers the changes of Reset.
func (r *Repository) reset(way int, at api.Id, who api.Ident) ([]txfile.Change, api.Errno) {
	if way < wayBranch || way > wayWork {
		return nil, api.ErrArg
	}
	commit, errno := base.Commit(r.Files, at)
	switch {
	case errno != api.OK:
		return nil, errno
	case r.busy():
		return nil, api.ErrBusy
	}
	var list []txfile.Change
	if way != wayBranch {
		if list, errno = r.toTree(commit.Tree, way); errno != api.OK {
			return nil, errno
		}
	}
	moved, errno := r.BranchTo(at, who, "reset")
	if errno != api.OK {
		return nil, errno
	}
	return append(list, moved...), api.OK
}

// toTree answers the changes by which the index and, by the way, the worktree are as a tree has them.
func (r *Repository) toTree(root api.Id, way int) ([]txfile.Change, api.Errno) {
	slots, errno := trees.Flatten(r.Files, root)
	if errno != api.OK {
		return nil, errno
	}
	if way == wayWork {
		return r.Back(slots)
	}
	indexed, errno := indexOf(slots)
	if errno != api.OK {
		return nil, errno
	}
	return []txfile.Change{indexed}, api.OK
}

// Switch answers the files behind HEAD naming another branch, index and worktree having what differs from the tip.
func Switch(files []api.File, name string, who api.Ident) ([]api.File, api.Errno) {
	return change(files, func(r *Repository) ([]txfile.Change, api.Errno) { return r.switchTo(branchFolder+name, who) })
}

// switchTo answers the changes of Switch.
func (r *Repository) switchTo(branch string, who api.Ident) ([]txfile.Change, api.Errno) {
	at, there := r.Ref(branch)
	switch {
	case r.busy():
		return nil, api.ErrBusy
	case !there:
		return nil, api.ErrNone
	case !index.Settled(r.Slots):
		return nil, api.ErrClash
	}
	ours, errno := r.TipSlots()
	if errno != api.OK {
		return nil, errno
	}
	theirs, errno := SlotsAt(r.Files, at.Id)
	if errno != api.OK {
		return nil, errno
	}
	list, errno := r.Between(ours, theirs)
	if errno != api.OK {
		return nil, errno
	}
	moved, errno := refs.Update(r.Files, headTo(branch), who, "switch")
	if errno != api.OK {
		return nil, errno
	}
	return append(list, moved...), api.OK
}
