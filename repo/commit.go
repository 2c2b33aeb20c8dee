package repo

import (
	"slices"
	"strings"

	"codicil/api"
	"codicil/base"
	"codicil/index"
	"codicil/object"
	"codicil/odb"
	"codicil/refs"
	"codicil/trees"
	"codicil/txfile"
)

// Commit answers the files behind a commit of what the index has, and its id.
func Commit(files []api.File, who api.Ident, message string) ([]api.File, api.Id, api.Errno) {
	var id api.Id
	made, errno := change(files, func(r *Repository) ([]txfile.Change, api.Errno) {
		var list []txfile.Change
		var errno api.Errno
		list, id, errno = r.commit(who, message)
		return list, errno
	})
	if errno != api.OK {
		return nil, api.Id{}, errno
	}
	return made, id, api.OK
}

// commit answers the changes of Commit, and the commit's id.
func (r *Repository) commit(who api.Ident, message string) ([]txfile.Change, api.Id, api.Errno) {
	switch {
	case !index.Settled(r.Slots):
		return nil, api.Id{}, api.ErrClash
	case r.busy():
		return nil, api.Id{}, api.ErrBusy
	}
	objects, root, errno := trees.Build(r.Slots)
	if errno != api.OK {
		return nil, api.Id{}, errno
	}
	parents, errno := r.parentsOf(root)
	if errno != api.OK {
		return nil, api.Id{}, errno
	}
	list, id, errno := r.Recorded(objects, api.Snapshot{Tree: root, Parents: parents, Author: who, Committer: who, Message: message})
	if errno != api.OK {
		return nil, api.Id{}, errno
	}
	firstLine, _, _ := strings.Cut(message, "\n")
	moved, errno := r.BranchTo(id, who, "commit: "+firstLine)
	if errno != api.OK {
		return nil, api.Id{}, errno
	}
	return append(list, moved...), id, api.OK
}

// Recorded answers the changes by which a commit and the objects that come with it are there, and its id.
func (r *Repository) Recorded(objects []api.Object, s api.Snapshot) ([]txfile.Change, api.Id, api.Errno) {
	data, errno := object.PutCommit(s)
	if errno != api.OK {
		return nil, api.Id{}, errno
	}
	commit := []api.Object{{Kind: api.Commit, Data: data}}
	list, ids, errno := odb.Put(r.Files, slices.Concat(objects, commit))
	if errno != api.OK {
		return nil, api.Id{}, errno
	}
	return list, ids[len(ids)-1], api.OK
}

// BranchTo answers the changes by which the branch's reference is a commit.
func (r *Repository) BranchTo(id api.Id, who api.Ident, message string) ([]txfile.Change, api.Errno) {
	return refs.Update(r.Files, branchAt(r.Branch, id), who, message)
}

// parentsOf answers the parents of a commit with the tree root, and an error if that would bring nothing new.
func (r *Repository) parentsOf(root api.Id) ([]api.Id, api.Errno) {
	if !r.HasTip() {
		if len(r.Slots) == 0 {
			return nil, api.ErrSame
		}
		return nil, api.OK
	}
	tip, errno := base.Commit(r.Files, r.Tip)
	switch {
	case errno != api.OK:
		return nil, errno
	case tip.Tree == root:
		return nil, api.ErrSame
	}
	return []api.Id{r.Tip}, api.OK
}
