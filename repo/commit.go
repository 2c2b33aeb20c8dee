package repo

import (
	"strings"

	"codicil/api"
	"codicil/base"
	"codicil/index"
	"codicil/object"
	"codicil/odb"
	"codicil/refs"
	"codicil/trees"
	"codicil/txfile"
)

// Commit answers the files behind a commit of what the index has, and its id.
func Commit(files []api.File, who api.Ident, message string) ([]api.File, api.Id, api.Errno) {
	var id api.Id
	made, errno := change(files, func(r *repository) ([]txfile.Change, api.Errno) {
		var list []txfile.Change
		var errno api.Errno
		list, id, errno = r.commit(who, message)
		return list, errno
	})
	if errno != api.OK {
		return nil, api.Id{}, errno
	}
	return made, id, api.OK
}

// commit answers the changes of Commit, and the commit's id.
func (r *repository) commit(who api.Ident, message string) ([]txfile.Change, api.Id, api.Errno) {
	switch {
	case !index.Settled(r.slots):
		return nil, api.Id{}, api.ErrClash
	case r.busy():
		return nil, api.Id{}, api.ErrBusy
	}
	objects, root, errno := trees.Build(r.slots)
	if errno != api.OK {
		return nil, api.Id{}, errno
	}
	parents, errno := r.parentsOf(root)
	if errno != api.OK {
		return nil, api.Id{}, errno
	}
	data, errno := object.PutCommit(api.Snapshot{Tree: root, Parents: parents, Author: who, Committer: who, Message: message})
	if errno != api.OK {
		return nil, api.Id{}, errno
	}
	list, ids, errno := odb.Put(r.files, append(objects, api.Object{Kind: api.Commit, Data: data}))
	if errno != api.OK {
		return nil, api.Id{}, errno
	}
	id := ids[len(ids)-1]
	firstLine, _, _ := strings.Cut(message, "\n")
	moved, errno := refs.Update(r.files, branchAt(r.branch, id), who, "commit: "+firstLine)
	if errno != api.OK {
		return nil, api.Id{}, errno
	}
	return append(list, moved...), id, api.OK
}

// parentsOf answers the parents of a commit with the tree root, and an error if that would bring nothing new.
func (r *repository) parentsOf(root api.Id) ([]api.Id, api.Errno) {
	if !r.hasTip() {
		if len(r.slots) == 0 {
			return nil, api.ErrSame
		}
		return nil, api.OK
	}
	tip, errno := base.Commit(r.files, r.tip)
	switch {
	case errno != api.OK:
		return nil, errno
	case tip.Tree == root:
		return nil, api.ErrSame
	}
	return []api.Id{r.tip}, api.OK
}
