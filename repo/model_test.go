package repo_test

import (
	"slices"
	"strings"
	"testing"

	"codicil/api"
	"codicil/base"
	"codicil/index"
	"codicil/names"
	"codicil/object"
	"codicil/odb"
	"codicil/refs"
	"codicil/repo"
	"codicil/trees"
)

// view is a repository taken apart.
type view struct {
	refs   map[string]api.Ref
	branch string
	tip    api.Id
	slots  []api.Slot
	work   map[string][]byte
	busy   bool
}

// viewOf answers by the chapter's words what files say.
func viewOf(files []api.File) (view, api.Errno) {
	v := view{refs: map[string]api.Ref{}, work: map[string][]byte{}}
	last := ""
	indexThere := false
	for _, f := range files {
		if !names.Path(f.Path) || f.Path <= last {
			return view{}, api.ErrForm
		}
		last = f.Path
		if strings.HasPrefix(f.Path, "work/") {
			v.work[f.Path[5:]] = f.Data
		}
		if f.Path == "seq" {
			v.busy = true
		}
		if f.Path == "index" {
			l, e := index.Parse(f.Data)
			if e != api.OK {
				return view{}, api.ErrForm
			}
			v.slots, indexThere = l, true
		}
	}
	list, e := refs.List(files)
	for _, r := range list {
		v.refs[r.Name] = r
	}
	v.branch = v.refs["HEAD"].Target
	v.tip = v.refs[v.branch].Id
	if e != api.OK || v.branch == "" || !indexThere {
		return view{}, api.ErrForm
	}
	return v, api.OK
}

// bySlots answers slots by paths and stages.
func bySlots(l []api.Slot) map[string]map[int]api.Slot {
	all := map[string]map[int]api.Slot{}
	for _, s := range l {
		if all[s.Path] == nil {
			all[s.Path] = map[int]api.Slot{}
		}
		all[s.Path][s.Stage] = s
	}
	return all
}

// inTheWay answers whether one of two paths is a folder of the other one.
func inTheWay(a, b string) bool {
	return strings.HasPrefix(a, b+"/") || strings.HasPrefix(b, a+"/")
}

// isClean answers whether the worktree has the file of a slot.
func (v view) isClean(s api.Slot) bool {
	p, there := v.work[s.Path]
	return there && len(p) <= api.MaxData && idOf(api.Object{Kind: api.Blob, Data: p}) == s.Id
}

// settled answers whether no slot has another stage than 0.
func (v view) settled() bool {
	return !slices.ContainsFunc(v.slots, func(s api.Slot) bool { return s.Stage != 0 })
}

// slotsOfCommit answers the slots of a commit; of no id none.
func slotsOfCommit(files []api.File, id api.Id) ([]api.Slot, api.Errno) {
	if id == (api.Id{}) {
		return nil, api.OK
	}
	c, e := base.Commit(files, id)
	if e != api.OK {
		return nil, e
	}
	return trees.Flatten(files, c.Tree)
}

// updatedRef answers the files behind a change of one reference, the others being in with.
func updatedRef(files []api.File, r api.Ref, who api.Ident, message string, with map[string][]byte) ([]api.File, api.Errno) {
	changes, e := refs.Update(files, []refs.Edit{{Ref: r, Any: true}}, who, message)
	if e != api.OK {
		return nil, e
	}
	for _, c := range changes {
		with[c.Path] = c.Data
		if c.Gone {
			with[c.Path] = nil
		}
	}
	return patched(files, with), api.OK
}

// withObjects puts the files of objects into with, and answers their ids.
func withObjects(files []api.File, with map[string][]byte, list ...api.Object) ([]api.Id, api.Errno) {
	changes, ids, e := odb.Put(files, list)
	if e != api.OK {
		return nil, e
	}
	for _, c := range changes {
		with[c.Path] = c.Data
	}
	return ids, api.OK
}

func plainWrite(files []api.File, path, text string) ([]api.File, api.Errno) {
	v, e := viewOf(files)
	if e != api.OK {
		return nil, e
	}
	if len(text) > api.MaxData {
		return nil, api.ErrLong
	}
	if !names.Path(path) || len(path) > 150 {
		return nil, api.ErrName
	}
	for p := range v.work {
		if inTheWay(p, path) {
			return nil, api.ErrExists
		}
	}
	return having(files, "work/"+path, text), api.OK
}

func plainErase(files []api.File, path string) ([]api.File, api.Errno) {
	v, e := viewOf(files)
	if e != api.OK {
		return nil, e
	}
	if _, there := v.work[path]; !there {
		return nil, api.ErrNone
	}
	return without(files, "work/"+path), api.OK
}

func plainAdd(files []api.File, path string, now int) ([]api.File, api.Errno) {
	v, e := viewOf(files)
	if e != api.OK {
		return nil, e
	}
	if now < 0 || now > 4294967295 {
		return nil, api.ErrArg
	}
	data, there := v.work[path]
	stages := bySlots(v.slots)[path]
	if !there && len(stages) == 0 {
		return nil, api.ErrNone
	}
	var others []api.Slot
	clash := false
	for _, s := range v.slots {
		if s.Path != path {
			others = append(others, s)
			clash = clash || inTheWay(s.Path, path)
		}
	}
	with := map[string][]byte{}
	if there {
		if clash {
			return nil, api.ErrExists
		}
		ids, e := withObjects(files, with, api.Object{Kind: api.Blob, Data: data})
		if e != api.OK {
			return nil, e
		}
		mode := api.ModeFile
		for stage := 3; stage >= 0; stage-- {
			if s, is := stages[stage]; is {
				mode = s.Mode
			}
		}
		others = append(others, api.Slot{Path: path, Mode: mode, Id: ids[0], Size: len(data), Time: now})
		slices.SortStableFunc(others, func(a, b api.Slot) int { return strings.Compare(a.Path, b.Path) })
	}
	p, e := index.Put(others)
	if e != api.OK {
		return nil, e
	}
	with["index"] = p
	return patched(files, with), api.OK
}

func plainCommit(files []api.File, who api.Ident, message string) ([]api.File, api.Id, api.Errno) {
	v, e := viewOf(files)
	if e != api.OK {
		return nil, api.Id{}, e
	}
	if !v.settled() {
		return nil, api.Id{}, api.ErrClash
	}
	if v.busy {
		return nil, api.Id{}, api.ErrBusy
	}
	all, root, e := trees.Build(v.slots)
	if e != api.OK {
		return nil, api.Id{}, e
	}
	s := api.Snapshot{Tree: root, Author: who, Committer: who, Message: message}
	if v.tip == (api.Id{}) {
		if len(v.slots) == 0 {
			return nil, api.Id{}, api.ErrSame
		}
	} else {
		s.Parents = []api.Id{v.tip}
		tip, e := base.Commit(files, v.tip)
		if e != api.OK {
			return nil, api.Id{}, e
		}
		if tip.Tree == root {
			return nil, api.Id{}, api.ErrSame
		}
	}
	p, e := object.PutCommit(s)
	if e != api.OK {
		return nil, api.Id{}, e
	}
	with := map[string][]byte{}
	ids, e := withObjects(files, with, append(all, api.Object{Kind: api.Commit, Data: p})...)
	if e != api.OK {
		return nil, api.Id{}, e
	}
	id := ids[len(ids)-1]
	made, e := updatedRef(files, api.Ref{Name: v.branch, Id: id}, who, "commit: "+strings.Split(message, "\n")[0], with)
	if e != api.OK {
		return nil, api.Id{}, e
	}
	return made, id, api.OK
}

func plainBranch(files []api.File, name string, at api.Id, who api.Ident) ([]api.File, api.Errno) {
	v, e := viewOf(files)
	if e != api.OK {
		return nil, e
	}
	name = "refs/heads/" + name
	if !names.Ref(name) {
		return nil, api.ErrName
	}
	if _, there := v.refs[name]; there {
		return nil, api.ErrExists
	}
	if _, e := base.Commit(files, at); e != api.OK {
		return nil, e
	}
	return updatedRef(files, api.Ref{Name: name, Id: at}, who, "branch", map[string][]byte{})
}

// plainComing puts the files of slots that come into with; paths that stay stand in the worktree.
func plainComing(files []api.File, come []api.Slot, stay []string, with map[string][]byte) api.Errno {
	for _, s := range come {
		if len(s.Path) > 150 {
			return api.ErrName
		}
	}
	for _, s := range come {
		o, e := odb.Get(files, s.Id)
		if e != api.OK {
			return e
		}
		if o.Kind != api.Blob {
			return api.ErrType
		}
		with["work/"+s.Path] = append([]byte{}, o.Data...)
	}
	for _, s := range come {
		for _, path := range stay {
			if inTheWay(s.Path, path) {
				return api.ErrExists
			}
		}
	}
	return api.OK
}

func plainReset(files []api.File, way int, at api.Id, who api.Ident) ([]api.File, api.Errno) {
	v, e := viewOf(files)
	if e != api.OK {
		return nil, e
	}
	if way != 0 && way != 1 && way != 2 {
		return nil, api.ErrArg
	}
	c, e := base.Commit(files, at)
	if e != api.OK {
		return nil, e
	}
	if v.busy {
		return nil, api.ErrBusy
	}
	with := map[string][]byte{}
	if way > 0 {
		l, e := trees.Flatten(files, c.Tree)
		if e != api.OK {
			return nil, e
		}
		if with["index"], e = index.Put(l); e != api.OK {
			return nil, e
		}
		if way == 2 {
			named := bySlots(append(slices.Clone(v.slots), l...))
			var stay []string
			for path := range v.work {
				if named[path] == nil {
					stay = append(stay, path)
				} else {
					with["work/"+path] = nil
				}
			}
			if e := plainComing(files, l, stay, with); e != api.OK {
				return nil, e
			}
		}
	}
	return updatedRef(files, api.Ref{Name: v.branch, Id: at}, who, "reset", with)
}

func plainSwitch(files []api.File, name string, who api.Ident) ([]api.File, api.Errno) {
	v, e := viewOf(files)
	if e != api.OK {
		return nil, e
	}
	target, there := v.refs["refs/heads/"+name]
	if v.busy {
		return nil, api.ErrBusy
	}
	if !there {
		return nil, api.ErrNone
	}
	if !v.settled() {
		return nil, api.ErrClash
	}
	ours, e := slotsOfCommit(files, v.tip)
	if e != api.OK {
		return nil, e
	}
	if target.Id == (api.Id{}) {
		return nil, api.ErrNone
	}
	theirs, e := slotsOfCommit(files, target.Id)
	if e != api.OK {
		return nil, e
	}
	now, tip, next := bySlots(v.slots), bySlots(ours), bySlots(theirs)
	var unlike []string
	for path := range bySlots(append(slices.Clone(ours), theirs...)) {
		if len(tip[path]) != len(next[path]) || tip[path][0].Mode != next[path][0].Mode || tip[path][0].Id != next[path][0].Id {
			unlike = append(unlike, path)
		}
	}
	slices.Sort(unlike)
	var come []api.Slot
	for _, path := range unlike {
		_, there := v.work[path]
		s, t := now[path][0], tip[path][0]
		switch {
		case len(now[path]) != len(tip[path]), s.Mode != t.Mode, s.Id != t.Id:
			return nil, api.ErrDirty
		case len(now[path]) == 1 && !v.isClean(s), len(now[path]) == 0 && there:
			return nil, api.ErrDirty
		}
		if len(next[path]) == 1 {
			come = append(come, next[path][0])
		}
	}
	behind := slices.DeleteFunc(slices.Clone(v.slots), func(s api.Slot) bool { return slices.Contains(unlike, s.Path) })
	behind = append(behind, come...)
	slices.SortFunc(behind, func(a, b api.Slot) int { return strings.Compare(a.Path, b.Path) })
	with := map[string][]byte{}
	if with["index"], e = index.Put(behind); e != api.OK {
		return nil, e
	}
	var stay []string
	for path := range v.work {
		if slices.Contains(unlike, path) {
			with["work/"+path] = nil
		} else {
			stay = append(stay, path)
		}
	}
	if e := plainComing(files, come, stay, with); e != api.OK {
		return nil, e
	}
	return updatedRef(files, api.Ref{Name: "HEAD", Target: "refs/heads/" + name}, who, "switch", with)
}

// plainStatus answers by the chapter's words what Status does.
func plainStatus(files []api.File) ([]repo.State, api.Errno) {
	v, e := viewOf(files)
	if e != api.OK {
		return nil, e
	}
	l, e := slotsOfCommit(files, v.tip)
	if e != api.OK {
		return nil, e
	}
	now, tip := bySlots(v.slots), bySlots(l)
	all := bySlots(append(slices.Clone(v.slots), l...))
	for path := range v.work {
		all[path] = nil
	}
	var list []repo.State
	for path := range all {
		s := repo.State{Path: path, Staged: ' ', Work: ' '}
		staged, settled := now[path][0]
		_, there := v.work[path]
		switch {
		case len(now[path]) > 0 && !settled:
			s.Staged = 'U'
		case settled && len(tip[path]) == 0:
			s.Staged = 'A'
		case !settled && len(tip[path]) == 1:
			s.Staged = 'D'
		case staged.Mode != tip[path][0].Mode, staged.Id != tip[path][0].Id:
			s.Staged = 'M'
		}
		least := api.Slot{}
		for stage := 3; stage >= 0; stage-- {
			if one, is := now[path][stage]; is {
				least = one
			}
		}
		switch {
		case len(now[path]) == 0 && there:
			s.Work = '?'
		case len(now[path]) > 0 && !there:
			s.Work = 'D'
		case len(now[path]) > 0 && !v.isClean(least):
			s.Work = 'M'
		}
		if s.Staged != ' ' || s.Work != ' ' {
			list = append(list, s)
		}
	}
	slices.SortFunc(list, func(a, b repo.State) int { return strings.Compare(a.Path, b.Path) })
	return list, api.OK
}

// wantRead fails unless Head, Index, Work and Status answer what the chapter's words do.
func wantRead(t *testing.T, what string, files []api.File) api.Errno {
	t.Helper()
	v, errno := viewOf(files)
	name, tip, e := repo.Head(files)
	if name != v.branch || tip != v.tip || e != errno {
		t.Fatalf("%s: Head is %q, %x, error %d, wanted %q, %x, error %d", what, name, tip, e, v.branch, v.tip, errno)
	}
	if l, e := repo.Index(files); !slices.Equal(l, v.slots) || e != errno {
		t.Fatalf("%s: Index is %v, error %d, wanted %v, error %d", what, l, e, v.slots, errno)
	}
	var wanted []api.File
	for _, f := range files {
		if path, is := strings.CutPrefix(f.Path, "work/"); is && errno == api.OK {
			wanted = append(wanted, api.File{Path: path, Data: f.Data})
		}
	}
	if l, e := repo.Work(files); !sameFiles(l, wanted) || e != errno {
		t.Fatalf("%s: Work, error %d, wanted %d; it %s", what, e, errno, differing(l, wanted))
	}
	status, errno := plainStatus(files)
	if l, e := repo.Status(files); !slices.Equal(l, status) || e != errno {
		t.Fatalf("%s: Status is %q, error %d, wanted %q, error %d", what, l, e, status, errno)
	}
	return errno
}
