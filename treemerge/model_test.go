package treemerge_test

import (
	"maps"
	"slices"
	"strings"

	"codicil/api"
	"codicil/index"
	"codicil/merge"
	"codicil/odb"
	"codicil/rename"
	"codicil/treemerge"
)

// at answers the slot of a path, nil being none.
func at(l []api.Slot, path string) *api.Slot {
	for _, s := range l {
		if s.Path == path {
			return &s
		}
	}
	return nil
}

// one answers whether two slots are one.
func one(a, b *api.Slot) bool {
	if a == nil || b == nil {
		return a == nil && b == nil
	}
	return a.Mode == b.Mode && a.Id == b.Id
}

// plainCounts answers by the chapter's words whether a pair of one side counts.
func plainCounts(p rename.Pair, base, other []api.Slot, otherPairs []rename.Pair) bool {
	pairOfFrom, thePair := false, false
	for _, q := range otherPairs {
		pairOfFrom = pairOfFrom || q.From == p.From
		thePair = thePair || q.From == p.From && q.To == p.To
	}
	return thePair || !pairOfFrom && at(other, p.From) != nil && at(base, p.To) == nil && at(other, p.To) == nil
}

// plainRefuses answers by the chapter's words the errors ahead of all others.
func plainRefuses(base, ours, theirs []api.Slot, labels [2]string) api.Errno {
	for _, l := range [][]api.Slot{base, ours, theirs} {
		if e := index.Check(l); e != api.OK {
			return e
		}
		for _, s := range l {
			if s.Stage != 0 {
				return api.ErrClash
			}
		}
	}
	for _, label := range labels {
		if len(label) > 100 || strings.Contains(label, "\n") || strings.Contains(label, "\x00") {
			return api.ErrName
		}
	}
	return api.OK
}

// plainMerge answers by the chapter's words what Merge does.
func plainMerge(files []api.File, base, ours, theirs []api.Slot, labels [2]string) (treemerge.Result, api.Errno) {
	if e := plainRefuses(base, ours, theirs, labels); e != api.OK {
		return treemerge.Result{}, e
	}
	ourPairs, e := rename.Pairs(files, base, ours, 50)
	if e != api.OK {
		return treemerge.Result{}, e
	}
	theirPairs, e := rename.Pairs(files, base, theirs, 50)
	if e != api.OK {
		return treemerge.Result{}, e
	}
	paths := map[string][3]*api.Slot{}
	for _, s := range slices.Concat(base, ours, theirs) {
		paths[s.Path] = [3]*api.Slot{at(base, s.Path), at(ours, s.Path), at(theirs, s.Path)}
	}
	// What is asked of the lists is asked of them as they are: here they aren't changed.
	for _, p := range ourPairs {
		if plainCounts(p, base, theirs, theirPairs) {
			other := at(theirs, p.From)
			if slices.ContainsFunc(theirPairs, func(q rename.Pair) bool { return q.From == p.From && q.To == p.To }) {
				other = at(theirs, p.To)
			}
			delete(paths, p.From)
			paths[p.To] = [3]*api.Slot{at(base, p.From), at(ours, p.To), other}
		}
	}
	for _, p := range theirPairs {
		if plainCounts(p, base, ours, ourPairs) {
			other := at(ours, p.From)
			if slices.ContainsFunc(ourPairs, func(q rename.Pair) bool { return q.From == p.From && q.To == p.To }) {
				other = at(ours, p.To)
			}
			delete(paths, p.From)
			paths[p.To] = [3]*api.Slot{at(base, p.From), other, at(theirs, p.To)}
		}
	}
	var r treemerge.Result
	for _, path := range slices.Sorted(maps.Keys(paths)) {
		x := paths[path]
		if e := plainPath(&r, files, path, x[0], x[1], x[2], labels); e != api.OK {
			return treemerge.Result{}, e
		}
	}
	for _, s := range r.Slots {
		for _, other := range r.Slots {
			if strings.HasPrefix(other.Path, s.Path+"/") {
				return treemerge.Result{}, api.ErrExists
			}
		}
	}
	return r, api.OK
}

// plainText answers the bytes of a slot's blob, of none nothing.
func plainText(files []api.File, s *api.Slot) ([]byte, api.Errno) {
	if s == nil {
		return nil, api.OK
	}
	o, e := odb.Get(files, s.Id)
	if e == api.OK && o.Kind != api.Blob {
		return nil, api.ErrType
	}
	return o.Data, e
}

// plainPath puts by the chapter's words what comes of a path behind a result.
func plainPath(r *treemerge.Result, files []api.File, path string, o, a, b *api.Slot, labels [2]string) api.Errno {
	put := func(s *api.Slot, stage int) {
		if s != nil {
			r.Slots = append(r.Slots, api.Slot{Path: path, Stage: stage, Mode: s.Mode, Id: s.Id})
		}
	}
	switch {
	case one(a, b):
		put(a, 0)
		return api.OK
	case one(a, o):
		put(b, 0)
		return api.OK
	case one(b, o):
		put(a, 0)
		return api.OK
	}
	var text []byte
	if a != nil && b != nil && a.Mode != api.ModeLink && b.Mode != api.ModeLink {
		mode := 0
		if a.Mode == b.Mode || o != nil && b.Mode == o.Mode {
			mode = a.Mode
		} else if o != nil && a.Mode == o.Mode {
			mode = b.Mode
		}
		var texts [3][]byte
		for i, s := range []*api.Slot{o, a, b} {
			text, e := plainText(files, s)
			if e != api.OK {
				return e
			}
			texts[i] = text
		}
		merged, clashes, e := merge.Three(texts[0], texts[1], texts[2], labels)
		if e != api.OK {
			return e
		}
		if mode != 0 && clashes == 0 {
			made := api.Object{Kind: api.Blob, Data: merged}
			put(&api.Slot{Mode: mode, Id: idOf(made)}, 0)
			r.Objects = append(r.Objects, made)
			return api.OK
		}
		text = merged
	} else {
		left := a
		if a == nil {
			left = b
		}
		var e api.Errno
		if text, e = plainText(files, left); e != api.OK {
			return e
		}
	}
	put(o, 1)
	put(a, 2)
	put(b, 3)
	r.Work = append(r.Work, api.File{Path: path, Data: text})
	return api.OK
}
