package repo

import (
	"bytes"
	"strings"

	"codicil/api"
	"codicil/names"
	"codicil/txfile"
)

// Write answers the files behind the worktree having a file.
func Write(files []api.File, path string, data []byte) ([]api.File, api.Errno) {
	return change(files, func(r *Repository) ([]txfile.Change, api.Errno) {
		switch {
		case len(data) > api.MaxData:
			return nil, api.ErrLong
		case !names.Path(path) || len(path) > maxWorkPath:
			return nil, api.ErrName
		case crossing([]string{path}, r.workPaths()):
			return nil, api.ErrExists
		}
		return []txfile.Change{{Path: workFolder + path, Data: data}}, api.OK
	})
}

// Erase answers the files behind the worktree's file of a path being gone.
func Erase(files []api.File, path string) ([]api.File, api.Errno) {
	return change(files, func(r *Repository) ([]txfile.Change, api.Errno) {
		if _, there := r.File(path); !there {
			return nil, api.ErrNone
		}
		return []txfile.Change{{Path: workFolder + path, Gone: true}}, api.OK
	})
}

// Work answers the worktree's files, by their paths.
func Work(files []api.File) ([]api.File, api.Errno) {
	if _, errno := Open(files); errno != api.OK {
		return nil, errno
	}
	var list []api.File
	for _, f := range files {
		if path, is := strings.CutPrefix(f.Path, workFolder); is {
			list = append(list, api.File{Path: strings.Clone(path), Data: bytes.Clone(f.Data)})
		}
	}
	return list, api.OK
}

// workPaths answers the paths of the worktree's files, rising.
func (r *Repository) workPaths() []string {
	var list []string
	for _, f := range r.Files {
		if path, is := strings.CutPrefix(f.Path, workFolder); is {
			list = append(list, path)
		}
	}
	return list
}
