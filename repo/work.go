package repo

import (
	"bytes"
	"strings"

	"codicil/api"
	"codicil/names"
	"codicil/odb"
	"codicil/txfile"
)

// Write answers the files behind the worktree having a file.
func Write(files []api.File, path string, data []byte) ([]api.File, api.Errno) {
	return change(files, func(r *repository) ([]txfile.Change, api.Errno) {
		switch {
		case len(data) > api.MaxData:
			return nil, api.ErrLong
		case !names.Path(path) || len(path) > maxWorkPath:
			return nil, api.ErrName
		case crossing([]string{path}, r.workPaths()):
			return nil, api.ErrExists
		}
		return []txfile.Change{{Path: workFolder + path, Data: data}}, api.OK
	})
}

// Erase answers the files behind the worktree's file of a path being gone.
func Erase(files []api.File, path string) ([]api.File, api.Errno) {
	return change(files, func(r *repository) ([]txfile.Change, api.Errno) {
		if _, there := r.file(path); !there {
			return nil, api.ErrNone
		}
		return []txfile.Change{{Path: workFolder + path, Gone: true}}, api.OK
	})
}

// Work answers the worktree's files, by their paths.
func Work(files []api.File) ([]api.File, api.Errno) {
	if _, errno := open(files); errno != api.OK {
		return nil, errno
	}
	var list []api.File
	for _, f := range files {
		if path, is := strings.CutPrefix(f.Path, workFolder); is {
			list = append(list, api.File{Path: strings.Clone(path), Data: bytes.Clone(f.Data)})
		}
	}
	return list, api.OK
}

// workPaths answers the paths of the worktree's files, rising.
func (r *repository) workPaths() []string {
	var list []string
	for _, f := range r.files {
		if path, is := strings.CutPrefix(f.Path, workFolder); is {
			list = append(list, path)
		}
	}
	return list
}

// toSlots answers the changes by which the worktree has, of all paths that are touched, just the files of the slots that
// come, which are among them.
func (r *repository) toSlots(touched []string, come []api.Slot) ([]txfile.Change, api.Errno) {
	isTouched, comes := setOf(touched), setOf(pathsOf(come))
	var list []txfile.Change
	var stay []string
	for _, path := range r.workPaths() {
		if _, is := isTouched[path]; !is {
			stay = append(stay, path)
		} else if _, is := comes[path]; !is {
			list = append(list, txfile.Change{Path: workFolder + path, Gone: true})
		}
	}
	came, errno := coming(r.files, come, stay)
	if errno != api.OK {
		return nil, errno
	}
	return append(list, came...), api.OK
}

// coming answers the changes by which the files of slots come into a worktree in which other paths stay.
func coming(files []api.File, slots []api.Slot, stay []string) ([]txfile.Change, api.Errno) {
	for _, s := range slots {
		if len(s.Path) > maxWorkPath {
			return nil, api.ErrName
		}
	}
	var list []txfile.Change
	errno := odb.Reading(files, func(get odb.Getter) api.Errno {
		for _, s := range slots {
			blob, errno := get(s.Id)
			switch {
			case errno != api.OK:
				return errno
			case blob.Kind != api.Blob:
				return api.ErrType
			}
			list = append(list, txfile.Change{Path: workFolder + s.Path, Data: blob.Data})
		}
		return api.OK
	})
	switch {
	case errno != api.OK:
		return nil, errno
	case crossing(pathsOf(slots), stay):
		return nil, api.ErrExists
	}
	return list, api.OK
}

// crossing answers whether a path of one list is a folder of a path of the other one.
func crossing(a, b []string) bool { return inFolders(a, b) || inFolders(b, a) }

// inFolders answers whether one of paths stands in one of folders.
func inFolders(paths, folders []string) bool {
	isFolder := setOf(folders)
	for _, path := range paths {
		for i := range len(path) {
			if path[i] != '/' {
				continue
			}
			if _, is := isFolder[path[:i]]; is {
				return true
			}
		}
	}
	return false
}

// setOf answers paths so that they can be asked for.
func setOf(paths []string) map[string]struct{} {
	set := make(map[string]struct{}, len(paths))
	for _, path := range paths {
		set[path] = struct{}{}
	}
	return set
}
