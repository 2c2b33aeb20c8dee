package repo

import (
	"slices"
	"strings"

	"codicil/api"
	"codicil/odb"
	"codicil/rename"
	"codicil/txfile"
)

// Back answers the changes by which the index has just these slots, and the worktree, of all paths that it or they have,
// just their files.
func (r *Repository) Back(slots []api.Slot) ([]txfile.Change, api.Errno) {
	return r.moved(slots, pathsOf(slices.Concat(r.Slots, slots)), arrival{slots: slots})
}

// Between answers the changes by which index and worktree go from ours, the tip's slots, to theirs, where these are unlike.
func (r *Repository) Between(ours, theirs []api.Slot) ([]txfile.Change, api.Errno) {
	unlike, errno := rename.Changes(ours, theirs)
	if errno != api.OK {
		return nil, errno
	}
	if slices.ContainsFunc(unlike, r.dirty) {
		return nil, api.ErrDirty
	}
	touched, come := sides(unlike)
	return r.moved(r.slotsWith(touched, come), touched, arrival{slots: come})
}

// Clashing answers the changes by which the index has slots, at whatever stages, and the worktree goes from ours, the tip's
// slots, to those at the stage 0, with texts at the paths that clash. That nothing would be lost is asked by who calls.
func (r *Repository) Clashing(ours, slots []api.Slot, texts []api.File) ([]txfile.Change, api.Errno) {
	settled := slices.DeleteFunc(slices.Clone(slots), func(s api.Slot) bool { return s.Stage != 0 })
	unlike, errno := rename.Changes(ours, settled)
	if errno != api.OK {
		return nil, errno
	}
	touched, come := sides(unlike)
	for _, text := range texts {
		touched = append(touched, text.Path)
	}
	return r.moved(slots, touched, arrival{slots: come, texts: texts})
}

// sides answers the paths that changes touch, and the slots that come.
func sides(list []rename.Change) ([]string, []api.Slot) {
	var touched []string
	var come []api.Slot
	for _, c := range list {
		touched = append(touched, c.Path)
		if c.New.Path != "" {
			come = append(come, c.New)
		}
	}
	return touched, come
}

// dirty answers whether index or worktree have something of their own at a path, which Old says what the tip has of.
func (r *Repository) dirty(c rename.Change) bool {
	s, has := r.slot(c.Path)
	_, there := r.File(c.Path)
	tipHas := c.Old.Path != ""
	switch {
	case has != tipHas:
		return true
	case has:
		return !Alike(s, c.Old) || !r.Clean(s)
	}
	return there
}

// slotsWith answers the index's slots, those of the paths that are touched being the ones that come.
func (r *Repository) slotsWith(touched []string, come []api.Slot) []api.Slot {
	isTouched := setOf(touched)
	var list []api.Slot
	for _, s := range r.Slots {
		if _, is := isTouched[s.Path]; !is {
			list = append(list, s)
		}
	}
	list = append(list, come...)
	slices.SortFunc(list, func(a, b api.Slot) int { return strings.Compare(a.Path, b.Path) })
	return list
}

// arrival is what comes into the worktree: the files of slots, and texts that are no slot's.
type arrival struct {
	slots []api.Slot
	texts []api.File
}

// paths answers the paths that come.
func (a arrival) paths() []string {
	list := pathsOf(a.slots)
	for _, text := range a.texts {
		list = append(list, text.Path)
	}
	return list
}

// moved answers the changes by which the index has these slots, and the worktree, of all paths that are touched, just what
// comes, whose paths are among them.
func (r *Repository) moved(slots []api.Slot, touched []string, come arrival) ([]txfile.Change, api.Errno) {
	indexed, errno := indexOf(slots)
	if errno != api.OK {
		return nil, errno
	}
	isTouched, comes := setOf(touched), setOf(come.paths())
	list := []txfile.Change{indexed}
	var stay []string
	for _, path := range r.workPaths() {
		if _, is := isTouched[path]; !is {
			stay = append(stay, path)
		} else if _, is := comes[path]; !is {
			list = append(list, txfile.Change{Path: workFolder + path, Gone: true})
		}
	}
	came, errno := come.changes(r.Files, stay)
	if errno != api.OK {
		return nil, errno
	}
	return append(list, came...), api.OK
}

// changes answers the changes by which what comes is in a worktree in which other paths stay.
func (a arrival) changes(files []api.File, stay []string) ([]txfile.Change, api.Errno) {
	paths := a.paths()
	if slices.ContainsFunc(paths, func(path string) bool { return len(path) > maxWorkPath }) {
		return nil, api.ErrName
	}
	list, errno := blobsOf(files, a.slots)
	switch {
	case errno != api.OK:
		return nil, errno
	case crossing(paths, stay):
		return nil, api.ErrExists
	}
	for _, text := range a.texts {
		list = append(list, txfile.Change{Path: workFolder + text.Path, Data: text.Data})
	}
	return list, api.OK
}

// blobsOf answers the changes by which the worktree has the files of slots.
func blobsOf(files []api.File, slots []api.Slot) ([]txfile.Change, api.Errno) {
	var list []txfile.Change
	errno := odb.Reading(files, func(get odb.Getter) api.Errno {
		for _, s := range slots {
			blob, errno := get(s.Id)
			switch {
			case errno != api.OK:
				return errno
			case blob.Kind != api.Blob:
				return api.ErrType
			}
			list = append(list, txfile.Change{Path: workFolder + s.Path, Data: blob.Data})
		}
		return api.OK
	})
	return list, errno
}

// crossing answers whether a path of one list is a folder of a path of the other one.
func crossing(a, b []string) bool { return inFolders(a, b) || inFolders(b, a) }

// inFolders answers whether one of paths stands in one of folders.
func inFolders(paths, folders []string) bool {
	isFolder := setOf(folders)
	for _, path := range paths {
		for i := range len(path) {
			if path[i] != '/' {
				continue
			}
			if _, is := isFolder[path[:i]]; is {
				return true
			}
		}
	}
	return false
}

// setOf answers paths so that they can be asked for.
func setOf(paths []string) map[string]struct{} {
	set := make(map[string]struct{}, len(paths))
	for _, path := range paths {
		set[path] = struct{}{}
	}
	return set
}
