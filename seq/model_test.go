package seq_test

import (
	"regexp"
	"slices"
	"strings"
	"testing"

	"codicil/api"
	"codicil/base"
	"codicil/index"
	"codicil/names"
	"codicil/object"
	"codicil/odb"
	"codicil/refs"
	"codicil/repo"
	"codicil/seq"
	"codicil/sha"
	"codicil/treemerge"
	"codicil/trees"
)

// view is a repository taken apart.
type view struct {
	refs   map[string]api.Ref
	branch string
	tip    api.Id
	slots  []api.Slot
	work   map[string][]byte
	busy   bool
	word   string
	start  api.Id
	todo   []api.Id
}

// viewOf answers by the chapters' words what files say.
func viewOf(files []api.File) (view, api.Errno) {
	v := view{refs: map[string]api.Ref{}, work: map[string][]byte{}}
	last := ""
	indexThere, wrong := false, false
	for _, f := range files {
		if !names.Path(f.Path) || f.Path <= last {
			return view{}, api.ErrForm
		}
		last = f.Path
		if strings.HasPrefix(f.Path, "work/") {
			v.work[f.Path[5:]] = f.Data
		}
		if f.Path == "seq" {
			v.busy = true
			wrong = !v.take(string(f.Data))
		}
		if f.Path == "index" {
			l, e := index.Parse(f.Data)
			if e != api.OK {
				return view{}, api.ErrForm
			}
			v.slots, indexThere = l, true
		}
	}
	list, e := refs.List(files)
	for _, r := range list {
		v.refs[r.Name] = r
	}
	v.branch = v.refs["HEAD"].Target
	v.tip = v.refs[v.branch].Id
	if e != api.OK || v.branch == "" || !indexThere || wrong {
		return view{}, api.ErrForm
	}
	return v, api.OK
}

// take takes what the file seq says; it answers whether that is in form.
func (v *view) take(text string) bool {
	one := "[0-9a-f]{64}\n"
	if !regexp.MustCompile("\\A(merge\n" + one + one + "|(pick|rebase)\n" + one + "(" + one + ")+)\\z").MatchString(text) {
		return false
	}
	lines := strings.Fields(text)
	v.word = lines[0]
	v.start, _ = sha.Parse(lines[1])
	for _, line := range lines[2:] {
		id, _ := sha.Parse(line)
		v.todo = append(v.todo, id)
	}
	return len(v.todo) <= 256
}

// seqText answers the bytes of the file seq.
func seqText(word string, start api.Id, todo ...api.Id) []byte {
	text := word + "\n" + digits(start) + "\n"
	for _, id := range todo {
		text += digits(id) + "\n"
	}
	return []byte(text)
}

// slotsOf answers the slots of a commit.
func slotsOf(files []api.File, id api.Id) ([]api.Slot, api.Errno) {
	c, e := base.Commit(files, id)
	if e != api.OK {
		return nil, e
	}
	return trees.Flatten(files, c.Tree)
}

// tipSlots answers the tip's slots.
func (v view) tipSlots(files []api.File) ([]api.Slot, api.Errno) {
	if v.tip == (api.Id{}) {
		return nil, api.OK
	}
	return slotsOf(files, v.tip)
}

// isClean answers whether the worktree has the file of a slot.
func (v view) isClean(s api.Slot) bool {
	p, there := v.work[s.Path]
	return there && len(p) <= api.MaxData && idOf(api.Object{Kind: api.Blob, Data: p}) == s.Id
}

// isTidy answers whether the index has just the slots, and each of their paths is clean.
func (v view) isTidy(l []api.Slot) bool {
	for _, s := range l {
		if !v.isClean(s) {
			return false
		}
	}
	return slices.Equal(bare(v.slots), bare(l))
}

// settled answers whether no slot has another stage than 0.
func settled(l []api.Slot) bool {
	return !slices.ContainsFunc(l, func(s api.Slot) bool { return s.Stage != 0 })
}

// has answers whether a path is among slots.
func has(l []api.Slot, path string) bool {
	return slices.ContainsFunc(l, func(s api.Slot) bool { return s.Path == path })
}

// inTheWay answers whether one of two paths is a folder of the other one.
func inTheWay(a, b string) bool {
	return strings.HasPrefix(a, b+"/") || strings.HasPrefix(b, a+"/")
}

// plainRef answers the files behind a change of one reference.
func plainRef(files []api.File, r api.Ref, who api.Ident, message string) ([]api.File, api.Errno) {
	changes, e := refs.Update(files, []refs.Edit{{Ref: r, Any: true}}, who, message)
	if e != api.OK {
		return nil, e
	}
	files, e = odb.Made(files, changes)
	return files, e
}

// plainPut answers the files with objects, and their ids.
func plainPut(files []api.File, list ...api.Object) ([]api.File, []api.Id, api.Errno) {
	changes, ids, e := odb.Put(files, list)
	if e != api.OK {
		return nil, nil, e
	}
	files, e = odb.Made(files, changes)
	return files, ids, e
}

// plainCommit answers the files with a commit of slots, and its id.
func plainCommit(files []api.File, l []api.Slot, s api.Snapshot) ([]api.File, api.Id, api.Errno) {
	all, root, e := trees.Build(l)
	if e != api.OK {
		return nil, api.Id{}, e
	}
	s.Tree = root
	p, e := object.PutCommit(s)
	if e != api.OK {
		return nil, api.Id{}, e
	}
	files, list, e := plainPut(files, append(all, api.Object{Kind: api.Commit, Data: p})...)
	if e != api.OK {
		return nil, api.Id{}, e
	}
	return files, list[len(list)-1], api.OK
}

// plainSet answers the files whose index has slots, and whose worktree, of the paths that are touched, has just those that
// come, as files of slots or as texts.
func plainSet(files []api.File, l []api.Slot, touched map[string]bool, come []api.Slot, texts []api.File) ([]api.File, api.Errno) {
	v, _ := viewOf(files)
	with := map[string][]byte{}
	var e api.Errno
	if with["index"], e = index.Put(l); e != api.OK {
		return nil, e
	}
	var stay, coming []string
	for path := range v.work {
		if touched[path] {
			with["work/"+path] = nil
		} else {
			stay = append(stay, path)
		}
	}
	for _, f := range texts {
		with["work/"+f.Path] = append([]byte{}, f.Data...)
		coming = append(coming, f.Path)
	}
	for _, s := range come {
		coming = append(coming, s.Path)
	}
	for _, path := range coming {
		if len(path) > 150 {
			return nil, api.ErrName
		}
	}
	for _, s := range come {
		o, e := odb.Get(files, s.Id)
		if e != api.OK {
			return nil, e
		}
		if o.Kind != api.Blob {
			return nil, api.ErrType
		}
		with["work/"+s.Path] = append([]byte{}, o.Data...)
	}
	for _, a := range coming {
		for _, b := range stay {
			if inTheWay(a, b) {
				return nil, api.ErrExists
			}
		}
	}
	return patched(files, with), api.OK
}

// plainGo answers the files whose index and worktree have gone from slots to others, as Switch does; with texts, where
// some clash: then the index has just these.
func plainGo(files []api.File, from, to []api.Slot, texts []api.File) ([]api.File, api.Errno) {
	v, _ := viewOf(files)
	touched := map[string]bool{}
	find := func(l []api.Slot, path string) (s api.Slot) {
		for _, s := range l {
			if s.Path == path && s.Stage == 0 {
				return api.Slot{Path: path, Mode: s.Mode, Id: s.Id}
			}
		}
		return s
	}
	for _, s := range append(slices.Clone(from), to...) {
		if find(from, s.Path) != find(to, s.Path) {
			touched[s.Path] = true
		}
	}
	var behind, come []api.Slot
	for _, s := range v.slots {
		if !touched[s.Path] {
			behind = append(behind, s)
		}
	}
	for _, s := range to {
		if touched[s.Path] && s.Stage == 0 {
			come = append(come, find(to, s.Path))
		}
	}
	if len(texts) > 0 {
		for _, f := range texts {
			touched[f.Path] = true
		}
		return plainSet(files, to, touched, come, texts)
	}
	behind = append(behind, come...)
	slices.SortFunc(behind, func(a, b api.Slot) int { return strings.Compare(a.Path, b.Path) })
	return plainSet(files, behind, touched, come, nil)
}

// plainBack answers the files whose index and worktree are as Reset of way 2 has them.
func plainBack(files []api.File, to []api.Slot) ([]api.File, api.Errno) {
	v, _ := viewOf(files)
	touched := map[string]bool{}
	for _, s := range append(slices.Clone(v.slots), to...) {
		touched[s.Path] = true
	}
	return plainSet(files, to, touched, to, nil)
}

// loses answers whether the worktree has a file at a path of slots that others haven't.
func (v view) loses(known, l []api.Slot) bool {
	return slices.ContainsFunc(l, func(s api.Slot) bool {
		_, there := v.work[s.Path]
		return there && !has(known, s.Path)
	})
}

// plainStep answers the files behind a step of a commit, and whether it stops; the file seq isn't told then. A plain step
// commits, one of Pop doesn't.
func plainStep(files []api.File, id api.Id, who api.Ident, word string, commits bool) ([]api.File, bool, api.Errno) {
	v, _ := viewOf(files)
	c, e := base.Commit(files, id)
	if e != api.OK {
		return nil, false, e
	}
	var from []api.Slot
	if len(c.Parents) > 0 {
		if from, e = slotsOf(files, c.Parents[0]); e != api.OK {
			return nil, false, e
		}
	}
	ours, e := v.tipSlots(files)
	if e != api.OK {
		return nil, false, e
	}
	theirs, e := slotsOf(files, id)
	if e != api.OK {
		return nil, false, e
	}
	m, e := treemerge.Merge(files, from, ours, theirs, [2]string{"HEAD", digits(id)})
	if e != api.OK {
		return nil, false, e
	}
	if v.loses(ours, m.Slots) {
		return nil, false, api.ErrDirty
	}
	if settled(m.Slots) && slices.Equal(m.Slots, ours) {
		return files, false, api.OK
	}
	if files, _, e = plainPut(files, m.Objects...); e != api.OK {
		return nil, false, e
	}
	if !settled(m.Slots) {
		files, e = plainGo(files, ours, m.Slots, m.Work)
		return files, true, e
	}
	var made api.Id
	if commits {
		s := api.Snapshot{Author: c.Author, Committer: who, Message: c.Message}
		if v.tip != (api.Id{}) {
			s.Parents = ids(v.tip)
		}
		if files, made, e = plainCommit(files, m.Slots, s); e != api.OK {
			return nil, false, e
		}
	}
	if files, e = plainGo(files, ours, m.Slots, nil); e != api.OK {
		return nil, false, e
	}
	if commits {
		files, e = plainRef(files, api.Ref{Name: v.branch, Id: made}, who, word)
	}
	return files, false, e
}

// plainSteps answers the files behind the steps of commits, till one stops, and whether none does.
func plainSteps(files []api.File, todo []api.Id, who api.Ident, word string, start api.Id) ([]api.File, bool, api.Errno) {
	for i, id := range todo {
		made, stopped, e := plainStep(files, id, who, word, true)
		if e != api.OK {
			return nil, false, e
		}
		if stopped {
			return patched(made, map[string][]byte{"seq": seqText(word, start, todo[i:]...)}), false, api.OK
		}
		files = made
	}
	return without(files, "seq"), true, api.OK
}

// ready answers what a command that begins is refused for: it has to be told which commits it is given.
func ready(files []api.File, v view, given ...api.Id) ([]api.Slot, api.Errno) {
	for _, id := range given {
		if _, e := base.Commit(files, id); e != api.OK {
			return nil, e
		}
	}
	if v.tip == (api.Id{}) {
		return nil, api.ErrNone
	}
	tip, e := slotsOf(files, v.tip)
	if e != api.OK {
		return nil, e
	}
	if !v.isTidy(tip) {
		return nil, api.ErrDirty
	}
	return tip, api.OK
}

// plainTo answers the files whose branch, index and worktree have gone from the tip's slots to a commit.
func plainTo(files []api.File, v view, tip []api.Slot, id api.Id, who api.Ident, word string) ([]api.File, api.Errno) {
	theirs, e := slotsOf(files, id)
	if e != api.OK {
		return nil, e
	}
	if v.loses(tip, theirs) {
		return nil, api.ErrDirty
	}
	if files, e = plainGo(files, tip, theirs, nil); e != api.OK {
		return nil, e
	}
	return plainRef(files, api.Ref{Name: v.branch, Id: id}, who, word)
}

// plainOne answers the slots of several commits made one, and the files with the objects that these need.
func plainOne(files []api.File, list []api.Id) ([]api.File, []api.Slot, api.Errno) {
	var l []api.Slot
	for i, id := range list {
		its, e := slotsOf(files, id)
		if e != api.OK {
			return nil, nil, e
		}
		if i == 0 {
			l = its
			continue
		}
		m, e := treemerge.Merge(files, nil, l, its, [2]string{"HEAD", digits(id)})
		if e != api.OK {
			return nil, nil, e
		}
		if files, _, e = plainPut(files, m.Objects...); e != api.OK {
			return nil, nil, e
		}
		l = slices.DeleteFunc(slices.Clone(m.Slots), func(s api.Slot) bool { return s.Stage != 0 })
		for _, f := range m.Work {
			text := api.Object{Kind: api.Blob, Data: f.Data}
			if files, _, e = plainPut(files, text); e != api.OK {
				return nil, nil, e
			}
			mode, highest := 0, 0
			for _, s := range m.Slots {
				if s.Path == f.Path && s.Stage > highest {
					mode, highest = s.Mode, s.Stage
				}
			}
			l = append(l, api.Slot{Path: f.Path, Mode: mode, Id: idOf(text)})
		}
		slices.SortFunc(l, func(a, b api.Slot) int { return strings.Compare(a.Path, b.Path) })
	}
	return files, l, api.OK
}

func plainMerge(files []api.File, id api.Id, who api.Ident) ([]api.File, bool, api.Errno) {
	v, e := viewOf(files)
	if e != api.OK {
		return nil, false, e
	}
	if v.busy {
		return nil, false, api.ErrBusy
	}
	ours, e := ready(files, v, id)
	if e != api.OK {
		return nil, false, e
	}
	before, e := base.Walk(files, ids(v.tip))
	if e != api.OK {
		return nil, false, e
	}
	if slices.Contains(before, id) {
		return nil, false, api.ErrSame
	}
	before, e = base.Walk(files, ids(id))
	if e != api.OK {
		return nil, false, e
	}
	if slices.Contains(before, v.tip) {
		files, e = plainTo(files, v, ours, id, who, "merge")
		return files, e == api.OK, e
	}
	list, e := base.Bases(files, v.tip, id)
	if e != api.OK {
		return nil, false, e
	}
	files, from, e := plainOne(files, list)
	if e != api.OK {
		return nil, false, e
	}
	theirs, e := slotsOf(files, id)
	if e != api.OK {
		return nil, false, e
	}
	m, e := treemerge.Merge(files, from, ours, theirs, [2]string{"HEAD", digits(id)})
	if e != api.OK {
		return nil, false, e
	}
	if v.loses(ours, m.Slots) {
		return nil, false, api.ErrDirty
	}
	if files, _, e = plainPut(files, m.Objects...); e != api.OK {
		return nil, false, e
	}
	if !settled(m.Slots) {
		if files, e = plainGo(files, ours, m.Slots, m.Work); e != api.OK {
			return nil, false, e
		}
		return patched(files, map[string][]byte{"seq": seqText("merge", v.tip, id)}), false, api.OK
	}
	files, made, e := plainCommit(files, m.Slots, api.Snapshot{Parents: ids(v.tip, id), Author: who, Committer: who, Message: "merge " + digits(id)})
	if e != api.OK {
		return nil, false, e
	}
	if files, e = plainGo(files, ours, m.Slots, nil); e != api.OK {
		return nil, false, e
	}
	files, e = plainRef(files, api.Ref{Name: v.branch, Id: made}, who, "merge")
	return files, e == api.OK, e
}

func plainPick(files []api.File, list []api.Id, who api.Ident) ([]api.File, bool, api.Errno) {
	v, e := viewOf(files)
	if e != api.OK {
		return nil, false, e
	}
	if v.busy {
		return nil, false, api.ErrBusy
	}
	if len(list) == 0 {
		return nil, false, api.ErrArg
	}
	if len(list) > 256 {
		return nil, false, api.ErrLong
	}
	if _, e := ready(files, v, list...); e != api.OK {
		return nil, false, e
	}
	return plainSteps(files, list, who, "pick", v.tip)
}

func plainRebase(files []api.File, onto api.Id, who api.Ident) ([]api.File, bool, api.Errno) {
	v, e := viewOf(files)
	if e != api.OK {
		return nil, false, e
	}
	if v.busy {
		return nil, false, api.ErrBusy
	}
	if _, e := base.Commit(files, onto); e != api.OK {
		return nil, false, e
	}
	if v.tip == (api.Id{}) {
		return nil, false, api.ErrNone
	}
	ours, walked := base.Walk(files, ids(v.tip))
	var theirs, todo []api.Id
	if walked == api.OK {
		theirs, walked = base.Walk(files, ids(onto))
	}
	if walked == api.OK {
		for _, id := range ours {
			if c, _ := base.Commit(files, id); !slices.Contains(theirs, id) && len(c.Parents) < 2 {
				todo = slices.Insert(todo, 0, id)
			}
		}
	}
	if len(todo) > 256 {
		return nil, false, api.ErrLong
	}
	tip, e := ready(files, v)
	if e != api.OK {
		return nil, false, e
	}
	if walked != api.OK {
		return nil, false, walked
	}
	if len(todo) == 0 && slices.Contains(ours, onto) {
		return nil, false, api.ErrSame
	}
	if files, e = plainTo(files, v, tip, onto, who, "rebase"); e != api.OK {
		return nil, false, e
	}
	return plainSteps(files, todo, who, "rebase", v.tip)
}

func plainContinue(files []api.File, who api.Ident) ([]api.File, bool, api.Errno) {
	v, e := viewOf(files)
	if e != api.OK {
		return nil, false, e
	}
	if !v.busy {
		return nil, false, api.ErrBusy
	}
	if !settled(v.slots) {
		return nil, false, api.ErrClash
	}
	s := api.Snapshot{Author: who, Committer: who, Message: "merge " + digits(v.todo[0])}
	if v.tip != (api.Id{}) {
		s.Parents = ids(v.tip)
	}
	dropped := false
	if v.word == "merge" {
		s.Parents = append(s.Parents, v.todo[0])
	} else {
		tip, e := v.tipSlots(files)
		if e != api.OK {
			return nil, false, e
		}
		if dropped = slices.Equal(bare(v.slots), tip); !dropped {
			c, e := base.Commit(files, v.todo[0])
			if e != api.OK {
				return nil, false, e
			}
			s.Author, s.Message = c.Author, c.Message
		}
	}
	if !dropped {
		var made api.Id
		if files, made, e = plainCommit(files, v.slots, s); e != api.OK {
			return nil, false, e
		}
		if files, e = plainRef(files, api.Ref{Name: v.branch, Id: made}, who, v.word); e != api.OK {
			return nil, false, e
		}
	}
	if len(v.todo) > 1 {
		w, _ := viewOf(files)
		tip, e := w.tipSlots(files)
		if e != api.OK {
			return nil, false, e
		}
		if !w.isTidy(tip) {
			return nil, false, api.ErrDirty
		}
	}
	return plainSteps(files, v.todo[1:], who, v.word, v.start)
}

func plainSkip(files []api.File, who api.Ident) ([]api.File, bool, api.Errno) {
	v, e := viewOf(files)
	if e != api.OK {
		return nil, false, e
	}
	if !v.busy {
		return nil, false, api.ErrBusy
	}
	tip, e := v.tipSlots(files)
	if e != api.OK {
		return nil, false, e
	}
	if files, e = plainBack(files, tip); e != api.OK {
		return nil, false, e
	}
	return plainSteps(files, v.todo[1:], who, v.word, v.start)
}

func plainAbort(files []api.File, who api.Ident) ([]api.File, api.Errno) {
	v, e := viewOf(files)
	if e != api.OK {
		return nil, e
	}
	if !v.busy {
		return nil, api.ErrBusy
	}
	l, e := slotsOf(files, v.start)
	if e != api.OK {
		return nil, e
	}
	if files, e = plainBack(files, l); e != api.OK {
		return nil, e
	}
	if files, e = plainRef(files, api.Ref{Name: v.branch, Id: v.start}, who, "abort"); e != api.OK {
		return nil, e
	}
	return without(files, "seq"), api.OK
}

func plainStash(files []api.File, who api.Ident) ([]api.File, api.Errno) {
	v, e := viewOf(files)
	if e != api.OK {
		return nil, e
	}
	switch {
	case v.busy:
		return nil, api.ErrBusy
	case v.tip == (api.Id{}):
		return nil, api.ErrNone
	case !settled(v.slots):
		return nil, api.ErrClash
	}
	tip, e := v.tipSlots(files)
	if e != api.OK {
		return nil, e
	}
	if v.isTidy(tip) {
		return nil, api.ErrSame
	}
	if v.loses(v.slots, tip) {
		return nil, api.ErrDirty
	}
	var l []api.Slot
	for _, s := range v.slots {
		p, there := v.work[s.Path]
		if !there {
			continue
		}
		if !v.isClean(s) {
			o := api.Object{Kind: api.Blob, Data: p}
			if files, _, e = plainPut(files, o); e != api.OK {
				return nil, e
			}
			s.Id = idOf(o)
		}
		l = append(l, s)
	}
	s := api.Snapshot{Parents: ids(v.tip), Author: who, Committer: who, Message: "stash"}
	if top := v.refs[topName]; top.Id != (api.Id{}) {
		s.Parents = append(s.Parents, top.Id)
	}
	files, made, e := plainCommit(files, l, s)
	if e != api.OK {
		return nil, e
	}
	if files, e = plainBack(files, tip); e != api.OK {
		return nil, e
	}
	return plainRef(files, api.Ref{Name: topName, Id: made}, who, "stash")
}

func plainPop(files []api.File, who api.Ident) ([]api.File, bool, api.Errno) {
	v, e := viewOf(files)
	if e != api.OK {
		return nil, false, e
	}
	top, there := v.refs[topName]
	switch {
	case v.busy:
		return nil, false, api.ErrBusy
	case !there:
		return nil, false, api.ErrNone
	}
	tip, e := v.tipSlots(files)
	if e != api.OK {
		return nil, false, e
	}
	if !v.isTidy(tip) {
		return nil, false, api.ErrDirty
	}
	c, _ := base.Commit(files, top.Id)
	files, stopped, e := plainStep(files, top.Id, who, "", false)
	if e != api.OK || stopped {
		return files, false, e
	}
	r := api.Ref{Name: topName}
	if len(c.Parents) > 1 {
		r.Id = c.Parents[1]
	}
	files, e = plainRef(files, r, who, "pop")
	return files, e == api.OK, e
}

// wantTodo fails unless Todo answers what the chapter's words do; it answers that.
func wantTodo(t *testing.T, what string, files []api.File) (string, []api.Id) {
	t.Helper()
	v, errno := viewOf(files)
	word, todo, e := seq.Todo(files)
	if word != v.word || !slices.Equal(todo, v.todo) || e != errno {
		t.Fatalf("%s: Todo is %q, %d, error %d, wanted %q, %d, error %d", what, word, len(todo), e, v.word, len(v.todo), errno)
	}
	return word, todo
}

// wantSameView fails unless two repositories have the same branch, references, slots, worktree and things to do.
func wantSameView(t *testing.T, what string, files, wanted []api.File) {
	t.Helper()
	a, _ := viewOf(files)
	b, _ := viewOf(wanted)
	refsAlike := len(a.refs) == len(b.refs)
	for name, r := range a.refs {
		refsAlike = refsAlike && b.refs[name] == r
	}
	if a.branch != b.branch || !refsAlike || !slices.Equal(bare(a.slots), bare(b.slots)) || a.busy != b.busy || a.word != b.word || !slices.Equal(a.todo, b.todo) {
		t.Fatalf("%s: %v, wanted %v", what, a, b)
	}
	l, _ := repo.Work(files)
	m, _ := repo.Work(wanted)
	if !sameFiles(l, m) {
		t.Fatalf("%s: the worktree %s", what, differing(l, m))
	}
}
