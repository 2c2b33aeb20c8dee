package repo

import (
	"codicil/api"
	"codicil/index"
	"codicil/odb"
	"codicil/txfile"
)

// Add answers the files behind the index having taken a path as the worktree has it.
func Add(files []api.File, path string, now int) ([]api.File, api.Errno) {
	return change(files, func(r *Repository) ([]txfile.Change, api.Errno) { return r.add(path, now) })
}

// add answers the changes of Add.
func (r *Repository) add(path string, now int) ([]txfile.Change, api.Errno) {
	file, there := r.File(path)
	old, has := r.slot(path)
	switch {
	case now < 0 || now > maxTime:
		return nil, api.ErrArg
	case !there && !has:
		return nil, api.ErrNone
	case !there:
		return r.withSlots(nil, path, nil)
	case crossing([]string{path}, pathsOf(r.Slots)):
		return nil, api.ErrExists
	}
	list, ids, errno := odb.Put(r.Files, []api.Object{{Kind: api.Blob, Data: file.Data}})
	if errno != api.OK {
		return nil, errno
	}
	s := api.Slot{Path: path, Mode: api.ModeFile, Id: ids[0], Size: len(file.Data), Time: now}
	if has {
		s.Mode = old.Mode
	}
	return r.withSlots(list, path, []api.Slot{s})
}

// withSlots puts the change by which the index has these slots of a path, and no others of it, behind list.
func (r *Repository) withSlots(list []txfile.Change, path string, slots []api.Slot) ([]txfile.Change, api.Errno) {
	made, errno := index.Set(r.Slots, path, slots)
	if errno != api.OK {
		return nil, errno
	}
	indexed, errno := indexOf(made)
	if errno != api.OK {
		return nil, errno
	}
	return append(list, indexed), api.OK
}
