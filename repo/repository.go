package repo

import (
	"slices"
	"strings"

	"codicil/api"
	"codicil/base"
	"codicil/filelist"
	"codicil/index"
	"codicil/object"
	"codicil/odb"
	"codicil/refs"
	"codicil/trees"
	"codicil/txfile"
)

// SeqPath is the path of the file that is there while a sequence is under way.
const SeqPath = "seq"

const (
	headName     = "HEAD"
	branchFolder = "refs/heads/"
	firstBranch  = "refs/heads/main"
	indexPath    = "index"
	workFolder   = "work/"
	maxWorkPath  = 150       // bytes of a path that comes into the worktree
	maxTime      = 1<<32 - 1 // of a slot
)

// Repository is what files say, as far as each command needs it. Its parts are for the layers above, too: who changes its
// Files opens them anew, unless they have only got more objects.
type Repository struct {
	Files  []api.File
	Refs   []api.Ref
	Branch string
	Tip    api.Id     // all 0: there is none
	Slots  []api.Slot // of the index
}

// Open answers the repository of files. It has one error for all that may be wrong with them.
func Open(files []api.File) (*Repository, api.Errno) {
	list, errno := refs.List(files)
	if errno != api.OK {
		return nil, api.ErrForm
	}
	r := &Repository{Files: files, Refs: list}
	head, _ := r.Ref(headName)
	at, there := filelist.Find(files, indexPath)
	if head.Target == "" || !there {
		return nil, api.ErrForm
	}
	if r.Slots, errno = index.Parse(files[at].Data); errno != api.OK {
		return nil, api.ErrForm
	}
	r.Branch = head.Target
	tip, _ := r.Ref(r.Branch)
	r.Tip = tip.Id
	return r, api.OK
}

// change answers the files behind a command, which answers its changes of what is opened.
func change(files []api.File, command func(r *Repository) ([]txfile.Change, api.Errno)) ([]api.File, api.Errno) {
	r, errno := Open(files)
	if errno != api.OK {
		return nil, errno
	}
	list, errno := command(r)
	if errno != api.OK {
		return nil, errno
	}
	return odb.Made(files, list)
}

// Ref answers the reference of a name, and whether it is there.
func (r *Repository) Ref(name string) (api.Ref, bool) {
	at, there := slices.BinarySearchFunc(r.Refs, name, func(f api.Ref, name string) int { return strings.Compare(f.Name, name) })
	if !there {
		return api.Ref{}, false
	}
	return r.Refs[at], true
}

// HasTip answers whether the branch has a commit yet.
func (r *Repository) HasTip() bool { return r.Tip != api.Id{} }

// busy answers whether a sequence is under way.
func (r *Repository) busy() bool {
	_, is := filelist.Find(r.Files, SeqPath)
	return is
}

// slot answers the index's slot of a path with the least stage, and whether there is one.
func (r *Repository) slot(path string) (api.Slot, bool) { return slotOf(r.Slots, path) }

// slotOf answers of slots in order the one of a path with the least stage, and whether there is one.
func slotOf(slots []api.Slot, path string) (api.Slot, bool) {
	at, there := slices.BinarySearchFunc(slots, path, func(s api.Slot, path string) int { return strings.Compare(s.Path, path) })
	if !there {
		return api.Slot{}, false
	}
	return slots[at], true
}

// TipSlots answers the tip's slots.
func (r *Repository) TipSlots() ([]api.Slot, api.Errno) {
	if !r.HasTip() {
		return nil, api.OK
	}
	return SlotsAt(r.Files, r.Tip)
}

// SlotsAt answers the slots of a commit.
func SlotsAt(files []api.File, id api.Id) ([]api.Slot, api.Errno) {
	commit, errno := base.Commit(files, id)
	if errno != api.OK {
		return nil, errno
	}
	return trees.Flatten(files, commit.Tree)
}

// File answers the worktree's file of a path, and whether there is one.
func (r *Repository) File(path string) (api.File, bool) {
	at, there := filelist.Find(r.Files, workFolder+path)
	if !there {
		return api.File{}, false
	}
	return r.Files[at], true
}

// Clean answers whether the worktree has the file of a slot, with its blob's bytes. A file that is too long for a blob has
// no id that a slot could have.
func (r *Repository) Clean(s api.Slot) bool {
	f, there := r.File(s.Path)
	if !there {
		return false
	}
	id, errno := object.Id(api.Object{Kind: api.Blob, Data: f.Data})
	return errno == api.OK && id == s.Id
}

// Alike answers whether two slots are the same for a tree.
func Alike(a, b api.Slot) bool { return a.Mode == b.Mode && a.Id == b.Id }

// pathsOf answers the paths of slots.
func pathsOf(slots []api.Slot) []string {
	paths := make([]string, 0, len(slots))
	for _, s := range slots {
		paths = append(paths, s.Path)
	}
	return paths
}

// indexOf answers the change by which the index has slots.
func indexOf(slots []api.Slot) (txfile.Change, api.Errno) {
	data, errno := index.Put(slots)
	if errno != api.OK {
		return txfile.Change{}, errno
	}
	return txfile.Change{Path: indexPath, Data: data}, api.OK
}

// headTo answers the edit by which HEAD names a branch, branchAt the one by which a branch is at a commit.
func headTo(branch string) []refs.Edit {
	return []refs.Edit{{Ref: api.Ref{Name: headName, Target: branch}, Any: true}}
}

func branchAt(branch string, id api.Id) []refs.Edit {
	return []refs.Edit{{Ref: api.Ref{Name: branch, Id: id}, Any: true}}
}
