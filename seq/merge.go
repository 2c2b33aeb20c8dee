package seq

import (
	"codicil/api"
	"codicil/base"
	"codicil/index"
	"codicil/repo"
	"codicil/sha"
	"codicil/treemerge"
)

// merge makes the branch have what another commit has, too; it answers whether that is done.
func (s *sequence) merge(id api.Id) (bool, api.Errno) {
	if _, errno := base.Commit(s.r.Files, id); errno != api.OK {
		return false, errno
	}
	ours, errno := s.fresh()
	if errno != api.OK {
		return false, errno
	}
	isOurs, errno := base.Within(s.r.Files, id, s.r.Tip)
	switch {
	case errno != api.OK:
		return false, errno
	case isOurs:
		return false, api.ErrSame
	}
	isTheirs, errno := base.Within(s.r.Files, s.r.Tip, id)
	switch {
	case errno != api.OK:
		return false, errno
	case isTheirs:
		return true, s.goTo(ours, id)
	}
	return s.mergeApart(ours, id)
}

// mergeApart merges the tip with a commit of which neither follows the other; it answers whether that is done.
func (s *sequence) mergeApart(ours []api.Slot, id api.Id) (bool, api.Errno) {
	from, errno := s.common(id)
	if errno != api.OK {
		return false, errno
	}
	theirs, errno := repo.SlotsAt(s.r.Files, id)
	if errno != api.OK {
		return false, errno
	}
	made, errno := s.join(from, ours, theirs, id)
	if errno != api.OK {
		return false, errno
	}
	b := brought{ours: ours, made: made}
	if index.Settled(made.Slots) {
		return true, s.advance(b, s.joined(id))
	}
	if errno := s.clash(b); errno != api.OK {
		return false, errno
	}
	s.plan.Todo = []api.Id{id}
	return false, s.pause()
}

// joined answers the commit that follows both the tip and another one.
func (s *sequence) joined(id api.Id) api.Snapshot {
	return api.Snapshot{Parents: s.parents(id), Author: s.who, Committer: s.who, Message: "merge " + sha.Hex(id)}
}

// settleMerge makes that commit with the index's tree.
func (s *sequence) settleMerge(id api.Id) api.Errno { return s.settle(s.joined(id)) }

// common answers the slots from which the tip and a commit began: those of their best common ancestors, made one.
func (s *sequence) common(id api.Id) ([]api.Slot, api.Errno) {
	bases, errno := base.Bases(s.r.Files, s.r.Tip, id)
	if errno != api.OK || len(bases) == 0 {
		return nil, errno
	}
	slots, errno := repo.SlotsAt(s.r.Files, bases[0])
	if errno != api.OK {
		return nil, errno
	}
	for _, further := range bases[1:] {
		theirs, errno := repo.SlotsAt(s.r.Files, further)
		if errno != api.OK {
			return nil, errno
		}
		made, errno := treemerge.Merge(s.r.Files, nil, slots, theirs, labelsOf(further))
		if errno != api.OK {
			return nil, errno
		}
		if slots, errno = s.asOne(made); errno != api.OK {
			return nil, errno
		}
	}
	return slots, api.OK
}

// asOne answers the slots of a merge in which each path that clashes has one, with its text. What they need is there then.
func (s *sequence) asOne(made treemerge.Result) ([]api.Slot, api.Errno) {
	if _, errno := s.put(made.Objects); errno != api.OK {
		return nil, errno
	}
	texts := make([]api.Object, 0, len(made.Work))
	for _, f := range made.Work {
		texts = append(texts, api.Object{Kind: api.Blob, Data: f.Data})
	}
	ids, errno := s.put(texts)
	if errno != api.OK {
		return nil, errno
	}
	idOf := map[string]api.Id{}
	for i, f := range made.Work {
		idOf[f.Path] = ids[i]
	}
	var list []api.Slot
	for i, slot := range made.Slots {
		// Stages rise: a path's last slot has its highest one.
		if i+1 < len(made.Slots) && made.Slots[i+1].Path == slot.Path {
			continue
		}
		if slot.Stage != 0 {
			slot.Stage, slot.Id = 0, idOf[slot.Path]
		}
		list = append(list, slot)
	}
	return list, api.OK
}
