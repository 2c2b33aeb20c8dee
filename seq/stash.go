package seq

import (
	"codicil/api"
	"codicil/index"
	"codicil/refs"
)

const (
	stashName    = "refs/stash/top"
	stashMessage = "stash"
	popMessage   = "pop"
)

// Stash answers the files behind what isn't committed being put away.
func Stash(files []api.File, who api.Ident) ([]api.File, api.Errno) {
	s, errno := begin(files, who, "")
	if errno != api.OK {
		return nil, errno
	}
	made, _, errno := s.answer(true, s.stash())
	return made, errno
}

// stash puts away what isn't committed.
func (s *sequence) stash() api.Errno {
	switch {
	case !s.r.HasTip():
		return api.ErrNone
	case !index.Settled(s.r.Slots):
		return api.ErrClash
	}
	tip, errno := s.r.TipSlots()
	switch {
	case errno != api.OK:
		return errno
	case isTidy(s.r, tip):
		return api.ErrSame
	case covers(s.r, s.r.Slots, tip):
		return api.ErrDirty
	}
	slots, errno := s.worked()
	if errno != api.OK {
		return errno
	}
	top, errno := s.record(slots, api.Snapshot{Parents: s.parents(s.stashed()...), Author: s.who, Committer: s.who, Message: stashMessage})
	if errno != api.OK {
		return errno
	}
	if errno := s.make(s.r.Back(tip)); errno != api.OK {
		return errno
	}
	return s.stashTo(top, stashMessage)
}

// worked answers the index's slots as the worktree has their files, whose blobs are there then.
func (s *sequence) worked() ([]api.Slot, api.Errno) {
	var slots []api.Slot
	var blobs []api.Object
	var changed []int
	for _, slot := range s.r.Slots {
		f, there := s.r.File(slot.Path)
		if !there {
			continue
		}
		if !s.r.Clean(slot) {
			changed = append(changed, len(slots))
			blobs = append(blobs, api.Object{Kind: api.Blob, Data: f.Data})
		}
		slots = append(slots, slot)
	}
	ids, errno := s.put(blobs)
	if errno != api.OK {
		return nil, errno
	}
	for i, at := range changed {
		slots[at].Id = ids[i]
	}
	return slots, api.OK
}

// stashed answers the commit that was put away last, if there is one.
func (s *sequence) stashed() []api.Id {
	top, _ := s.r.Ref(stashName)
	if top.Id == (api.Id{}) {
		return nil
	}
	return []api.Id{top.Id}
}

// stashTo makes the stash's reference be a commit; of all 0 it is gone.
func (s *sequence) stashTo(id api.Id, message string) api.Errno {
	edits := []refs.Edit{{Ref: api.Ref{Name: stashName, Id: id}, Any: true}}
	return s.make(refs.Update(s.r.Files, edits, s.who, message))
}

// Pop answers the files behind what was put away last coming back, and whether that is done.
func Pop(files []api.File, who api.Ident) ([]api.File, bool, api.Errno) {
	s, errno := begin(files, who, "")
	if errno != api.OK {
		return nil, false, errno
	}
	return s.answer(s.pop())
}

// pop brings back what was put away last; it answers whether that is done.
func (s *sequence) pop() (bool, api.Errno) {
	top, there := s.r.Ref(stashName)
	if !there {
		return false, api.ErrNone
	}
	if _, errno := tidy(s.r); errno != api.OK {
		return false, errno
	}
	b, errno := s.bring(top.Id)
	switch {
	case errno != api.OK:
		return false, errno
	case !index.Settled(b.made.Slots):
		return false, s.clash(b)
	}
	if _, errno := s.put(b.made.Objects); errno != api.OK {
		return false, errno
	}
	if errno := s.make(s.r.Between(b.ours, b.made.Slots)); errno != api.OK {
		return false, errno
	}
	var below api.Id
	if len(b.commit.Parents) > 1 {
		below = b.commit.Parents[1]
	}
	return true, s.stashTo(below, popMessage)
}
