package base

import (
	"slices"

	"codicil/api"
	"codicil/odb"
)

// history is commits and all their ancestors.
type history struct {
	ids     []api.Id // as they were met
	commits map[api.Id]commit
}

// commit is what is asked of a commit; messages, which may be long, are left out.
type commit struct {
	parents []api.Id
	time    int
}

// read answers the history of commits.
func read(files []api.File, from ...api.Id) (*history, api.Errno) {
	h := &history{commits: map[api.Id]commit{}}
	errno := odb.Reading(files, func(get odb.Getter) api.Errno { return h.fill(get, from) })
	if errno != api.OK {
		return nil, errno
	}
	return h, api.OK
}

// fill goes through commits and their ancestors, breadth first.
func (h *history) fill(get odb.Getter, from []api.Id) api.Errno {
	queue := slices.Clone(from)
	for len(queue) > 0 {
		id := queue[0]
		queue = queue[1:]
		if _, met := h.commits[id]; met {
			continue
		}
		o, errno := get(id)
		if errno != api.OK {
			return errno
		}
		s, errno := parse(o)
		if errno != api.OK {
			return errno
		}
		if len(h.ids) == api.MaxObjects {
			return api.ErrLong
		}
		h.ids = append(h.ids, id)
		h.commits[id] = commit{parents: s.Parents, time: s.Committer.Time}
		queue = append(queue, s.Parents...)
	}
	return api.OK
}

// named answers how often each commit is named as a parent by these.
func (h *history) named(ids []api.Id) map[api.Id]int {
	counts := map[api.Id]int{}
	for _, id := range ids {
		for _, parent := range h.commits[id].parents {
			counts[parent]++
		}
	}
	return counts
}

// common answers the ancestors of both a and b.
func (h *history) common(a, b api.Id) []api.Id {
	ofA, ofB := h.ancestors(a), h.ancestors(b)
	var list []api.Id
	for _, id := range h.ids {
		_, inA := ofA[id]
		_, inB := ofB[id]
		if inA && inB {
			list = append(list, id)
		}
	}
	return list
}

// ancestors answers the ancestors of a commit.
func (h *history) ancestors(of api.Id) map[api.Id]struct{} {
	met := map[api.Id]struct{}{}
	todo := []api.Id{of}
	for len(todo) > 0 {
		last := len(todo) - 1
		id := todo[last]
		todo = todo[:last]
		if _, again := met[id]; again {
			continue
		}
		met[id] = struct{}{}
		todo = append(todo, h.commits[id].parents...)
	}
	return met
}
