package seq

import (
	"slices"

	"codicil/api"
	"codicil/repo"
)

// tidy answers the tip's slots, if the index has just these, and the worktree their files; else ErrDirty.
func tidy(r *repo.Repository) ([]api.Slot, api.Errno) {
	tip, errno := r.TipSlots()
	switch {
	case errno != api.OK:
		return nil, errno
	case !isTidy(r, tip):
		return nil, api.ErrDirty
	}
	return tip, api.OK
}

// isTidy answers whether index and worktree have what the tip's slots say.
func isTidy(r *repo.Repository, tip []api.Slot) bool {
	unclean := func(s api.Slot) bool { return !r.Clean(s) }
	return sameSlots(tip, r.Slots) && !slices.ContainsFunc(tip, unclean)
}

// sameSlots answers whether two lists of slots are the same for a tree.
func sameSlots(a, b []api.Slot) bool {
	return slices.EqualFunc(a, b, func(x, y api.Slot) bool { return x.Path == y.Path && x.Stage == y.Stage && repo.Alike(x, y) })
}

// covers answers whether the worktree has a file where slots have a path that others haven't.
func covers(r *repo.Repository, known, slots []api.Slot) bool {
	isKnown := make(map[string]struct{}, len(known))
	for _, s := range known {
		isKnown[s.Path] = struct{}{}
	}
	return slices.ContainsFunc(slots, func(s api.Slot) bool {
		_, is := isKnown[s.Path]
		_, there := r.File(s.Path)
		return there && !is
	})
}
