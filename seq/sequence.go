package seq

import (
	"codicil/agenda"
	"codicil/api"
	"codicil/base"
	"codicil/index"
	"codicil/odb"
	"codicil/repo"
	"codicil/sha"
	"codicil/treemerge"
	"codicil/trees"
	"codicil/txfile"
)

// oursLabel tells the tip's side in texts that clash; the other side has its commit's digits.
const oursLabel = "HEAD"

// sequence is what is under way, and the repository as it is behind what has been done.
type sequence struct {
	r    *repo.Repository
	who  api.Ident
	plan agenda.Agenda
}

// open answers the repository of files, its agenda, and whether something is under way.
func open(files []api.File) (*repo.Repository, agenda.Agenda, bool, api.Errno) {
	r, errno := repo.Open(files)
	if errno != api.OK {
		return nil, agenda.Agenda{}, false, errno
	}
	plan, busy, errno := agenda.Of(files)
	if errno != api.OK {
		return nil, agenda.Agenda{}, false, errno
	}
	return r, plan, busy, api.OK
}

// begin answers a sequence that begins, if nothing is under way.
func begin(files []api.File, who api.Ident, word string) (*sequence, api.Errno) {
	r, _, busy, errno := open(files)
	switch {
	case errno != api.OK:
		return nil, errno
	case busy:
		return nil, api.ErrBusy
	}
	return &sequence{r: r, who: who, plan: agenda.Agenda{Word: word, Start: r.Tip}}, api.OK
}

// resume answers the sequence that is under way.
func resume(files []api.File, who api.Ident) (*sequence, api.Errno) {
	r, plan, busy, errno := open(files)
	switch {
	case errno != api.OK:
		return nil, errno
	case !busy:
		return nil, api.ErrBusy
	}
	return &sequence{r: r, who: who, plan: plan}, api.OK
}

// answer answers the files behind what has been done; done says whether that is all.
func (s *sequence) answer(done bool, errno api.Errno) ([]api.File, bool, api.Errno) {
	if errno != api.OK {
		return nil, false, errno
	}
	return s.r.Files, done, api.OK
}

// make makes changes of the repository's files.
func (s *sequence) make(list []txfile.Change, errno api.Errno) api.Errno {
	if errno != api.OK {
		return errno
	}
	files, errno := odb.Made(s.r.Files, list)
	if errno != api.OK {
		return errno
	}
	s.r.Files = files
	return api.OK
}

// put makes objects be there, and answers their ids.
func (s *sequence) put(list []api.Object) ([]api.Id, api.Errno) {
	changes, ids, errno := odb.Put(s.r.Files, list)
	if errno := s.make(changes, errno); errno != api.OK {
		return nil, errno
	}
	return ids, api.OK
}

// reopen makes the repository's parts what its files say.
func (s *sequence) reopen() api.Errno {
	r, errno := repo.Open(s.r.Files)
	if errno != api.OK {
		return errno
	}
	s.r = r
	return api.OK
}

// fresh answers the tip's slots, if there is a tip, and all is tidy.
func (s *sequence) fresh() ([]api.Slot, api.Errno) {
	if !s.r.HasTip() {
		return nil, api.ErrNone
	}
	return tidy(s.r)
}

// run takes step after step, till none is left, or one stops; it answers whether all are done.
func (s *sequence) run() (bool, api.Errno) {
next:
	if len(s.plan.Todo) == 0 {
		return true, s.end()
	}
	stopped, errno := s.step(s.plan.Todo[0])
	switch {
	case errno != api.OK:
		return false, errno
	case stopped:
		return false, s.pause()
	}
	s.plan.Todo = s.plan.Todo[1:]
	goto next
}

// end makes nothing be under way any more, pause what is still to do.
func (s *sequence) end() api.Errno {
	return s.make([]txfile.Change{{Path: repo.SeqPath, Gone: true}}, api.OK)
}

func (s *sequence) pause() api.Errno {
	return s.make([]txfile.Change{{Path: repo.SeqPath, Data: s.plan.Text()}}, api.OK)
}

// step takes the step of a commit; it answers whether that stops.
func (s *sequence) step(id api.Id) (bool, api.Errno) {
	b, errno := s.bring(id)
	switch {
	case errno != api.OK:
		return false, errno
	case !index.Settled(b.made.Slots):
		return true, s.clash(b)
	case sameSlots(b.ours, b.made.Slots):
		return false, api.OK
	}
	return false, s.advance(b, s.again(b.commit))
}

// again answers a commit that is made once more, as it will stand upon the tip.
func (s *sequence) again(commit api.Snapshot) api.Snapshot {
	return api.Snapshot{Parents: s.parents(), Author: commit.Author, Committer: s.who, Message: commit.Message}
}

// parents answers the tip, if there is one, and others.
func (s *sequence) parents(others ...api.Id) []api.Id {
	if !s.r.HasTip() {
		return others
	}
	return append([]api.Id{s.r.Tip}, others...)
}

// brought is what a commit brings to the tip.
type brought struct {
	commit api.Snapshot
	ours   []api.Slot // the tip's
	made   treemerge.Result
}

// bring answers what a step of a commit makes of the tip's slots.
func (s *sequence) bring(id api.Id) (brought, api.Errno) {
	commit, errno := base.Commit(s.r.Files, id)
	if errno != api.OK {
		return brought{}, errno
	}
	var from []api.Slot
	if len(commit.Parents) > 0 {
		if from, errno = repo.SlotsAt(s.r.Files, commit.Parents[0]); errno != api.OK {
			return brought{}, errno
		}
	}
	ours, errno := s.r.TipSlots()
	if errno != api.OK {
		return brought{}, errno
	}
	theirs, errno := trees.Flatten(s.r.Files, commit.Tree)
	if errno != api.OK {
		return brought{}, errno
	}
	made, errno := s.join(from, ours, theirs, id)
	if errno != api.OK {
		return brought{}, errno
	}
	return brought{commit: commit, ours: ours, made: made}, api.OK
}

// join answers what the tip and a commit make of their base, if the worktree, which is tidy, loses nothing by it.
func (s *sequence) join(from, ours, theirs []api.Slot, id api.Id) (treemerge.Result, api.Errno) {
	made, errno := treemerge.Merge(s.r.Files, from, ours, theirs, labelsOf(id))
	switch {
	case errno != api.OK:
		return treemerge.Result{}, errno
	case covers(s.r, ours, made.Slots):
		return treemerge.Result{}, api.ErrDirty
	}
	return made, api.OK
}

// labelsOf answers the labels of a merge with a commit.
func labelsOf(id api.Id) [2]string { return [2]string{oursLabel, sha.Hex(id)} }

// clash makes index and worktree be what is left where paths clash.
func (s *sequence) clash(b brought) api.Errno {
	if _, errno := s.put(b.made.Objects); errno != api.OK {
		return errno
	}
	return s.make(s.r.Clashing(b.ours, b.made.Slots, b.made.Work))
}

// advance makes a commit of what was brought; index and worktree go there from the tip's slots, and the branch does.
func (s *sequence) advance(b brought, commit api.Snapshot) api.Errno {
	if _, errno := s.put(b.made.Objects); errno != api.OK {
		return errno
	}
	id, errno := s.record(b.made.Slots, commit)
	if errno != api.OK {
		return errno
	}
	if errno := s.make(s.r.Between(b.ours, b.made.Slots)); errno != api.OK {
		return errno
	}
	return s.branchTo(id)
}

// goTo makes branch, index and worktree go from the tip's slots to a commit.
func (s *sequence) goTo(ours []api.Slot, id api.Id) api.Errno {
	theirs, errno := repo.SlotsAt(s.r.Files, id)
	if errno != api.OK {
		return errno
	}
	if errno := s.make(s.r.Between(ours, theirs)); errno != api.OK {
		return errno
	}
	return s.branchTo(id)
}

// branchTo makes the branch be at a commit.
func (s *sequence) branchTo(id api.Id) api.Errno {
	if errno := s.make(s.r.BranchTo(id, s.who, s.plan.Word)); errno != api.OK {
		return errno
	}
	return s.reopen()
}

// record makes a commit with the tree of slots be there, and answers its id.
func (s *sequence) record(slots []api.Slot, commit api.Snapshot) (api.Id, api.Errno) {
	objects, root, errno := trees.Build(slots)
	if errno != api.OK {
		return api.Id{}, errno
	}
	commit.Tree = root
	list, id, errno := s.r.Recorded(objects, commit)
	if errno := s.make(list, errno); errno != api.OK {
		return api.Id{}, errno
	}
	return id, api.OK
}

// settleStep makes the commit that stopped once more, with the index's tree; nothing, if that is the tip's.
func (s *sequence) settleStep(id api.Id) api.Errno {
	tip, errno := s.r.TipSlots()
	if errno != api.OK || sameSlots(tip, s.r.Slots) {
		return errno
	}
	commit, errno := base.Commit(s.r.Files, id)
	if errno != api.OK {
		return errno
	}
	return s.settle(s.again(commit))
}

// settle makes a commit with the index's tree, and the branch be at it.
func (s *sequence) settle(commit api.Snapshot) api.Errno {
	id, errno := s.record(s.r.Slots, commit)
	if errno != api.OK {
		return errno
	}
	return s.branchTo(id)
}
