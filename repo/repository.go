package repo

import (
	"slices"
	"strings"

	"codicil/api"
	"codicil/base"
	"codicil/filelist"
	"codicil/index"
	"codicil/object"
	"codicil/odb"
	"codicil/refs"
	"codicil/trees"
	"codicil/txfile"
)

const (
	headName     = "HEAD"
	branchFolder = "refs/heads/"
	firstBranch  = "refs/heads/main"
	indexPath    = "index"
	seqPath      = "seq"
	workFolder   = "work/"
	maxWorkPath  = 150       // bytes of a path that comes into the worktree
	maxTime      = 1<<32 - 1 // of a slot
)

// repository is what files say, as far as each command needs it.
type repository struct {
	files  []api.File
	refs   []api.Ref
	branch string
	tip    api.Id     // all 0: there is none
	slots  []api.Slot // of the index
}

// open answers the repository of files. It has one error for all that may be wrong with them.
func open(files []api.File) (*repository, api.Errno) {
	list, errno := refs.List(files)
	if errno != api.OK {
		return nil, api.ErrForm
	}
	r := &repository{files: files, refs: list}
	head, _ := r.ref(headName)
	at, there := filelist.Find(files, indexPath)
	if head.Target == "" || !there {
		return nil, api.ErrForm
	}
	if r.slots, errno = index.Parse(files[at].Data); errno != api.OK {
		return nil, api.ErrForm
	}
	r.branch = head.Target
	tip, _ := r.ref(r.branch)
	r.tip = tip.Id
	return r, api.OK
}

// change answers the files behind a command, which answers its changes of what is opened.
func change(files []api.File, command func(r *repository) ([]txfile.Change, api.Errno)) ([]api.File, api.Errno) {
	r, errno := open(files)
	if errno != api.OK {
		return nil, errno
	}
	list, errno := command(r)
	if errno != api.OK {
		return nil, errno
	}
	return odb.Made(files, list)
}

// ref answers the reference of a name, and whether it is there.
func (r *repository) ref(name string) (api.Ref, bool) {
	at, there := slices.BinarySearchFunc(r.refs, name, func(f api.Ref, name string) int { return strings.Compare(f.Name, name) })
	if !there {
		return api.Ref{}, false
	}
	return r.refs[at], true
}

// hasTip answers whether the branch has a commit yet.
func (r *repository) hasTip() bool { return r.tip != api.Id{} }

// busy answers whether a sequence is under way.
func (r *repository) busy() bool {
	_, is := filelist.Find(r.files, seqPath)
	return is
}

// slot answers the index's slot of a path with the least stage, and whether there is one.
func (r *repository) slot(path string) (api.Slot, bool) { return slotOf(r.slots, path) }

// slotOf answers of slots in order the one of a path with the least stage, and whether there is one.
func slotOf(slots []api.Slot, path string) (api.Slot, bool) {
	at, there := slices.BinarySearchFunc(slots, path, func(s api.Slot, path string) int { return strings.Compare(s.Path, path) })
	if !there {
		return api.Slot{}, false
	}
	return slots[at], true
}

// tipSlots answers the tip's slots.
func (r *repository) tipSlots() ([]api.Slot, api.Errno) {
	if !r.hasTip() {
		return nil, api.OK
	}
	return slotsAt(r.files, r.tip)
}

// slotsAt answers the slots of a commit.
func slotsAt(files []api.File, id api.Id) ([]api.Slot, api.Errno) {
	commit, errno := base.Commit(files, id)
	if errno != api.OK {
		return nil, errno
	}
	return trees.Flatten(files, commit.Tree)
}

// file answers the worktree's file of a path, and whether there is one.
func (r *repository) file(path string) (api.File, bool) {
	at, there := filelist.Find(r.files, workFolder+path)
	if !there {
		return api.File{}, false
	}
	return r.files[at], true
}

// clean answers whether the worktree has the file of a slot, with its blob's bytes. A file that is too long for a blob has
// no id that a slot could have.
func (r *repository) clean(s api.Slot) bool {
	f, there := r.file(s.Path)
	if !there {
		return false
	}
	id, errno := object.Id(api.Object{Kind: api.Blob, Data: f.Data})
	return errno == api.OK && id == s.Id
}

// alike answers whether two slots are the same for a tree.
func alike(a, b api.Slot) bool { return a.Mode == b.Mode && a.Id == b.Id }

// pathsOf answers the paths of slots.
func pathsOf(slots []api.Slot) []string {
	paths := make([]string, 0, len(slots))
	for _, s := range slots {
		paths = append(paths, s.Path)
	}
	return paths
}

// indexOf answers the change by which the index has slots.
func indexOf(slots []api.Slot) (txfile.Change, api.Errno) {
	data, errno := index.Put(slots)
	if errno != api.OK {
		return txfile.Change{}, errno
	}
	return txfile.Change{Path: indexPath, Data: data}, api.OK
}

// headTo answers the edit by which HEAD names a branch, branchAt the one by which a branch is at a commit.
func headTo(branch string) []refs.Edit {
	return []refs.Edit{{Ref: api.Ref{Name: headName, Target: branch}, Any: true}}
}

func branchAt(branch string, id api.Id) []refs.Edit {
	return []refs.Edit{{Ref: api.Ref{Name: branch, Id: id}, Any: true}}
}
