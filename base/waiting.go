package base

import (
	"container/heap"

	"codicil/api"
	"codicil/sha"
)

// entry is a commit that can be listed.
type entry struct {
	id   api.Id
	time int
}

// waiting is commits of which container/heap has the latest come first, of several the one with the least id.
type waiting []entry

func (w waiting) Len() int { return len(w) }

func (w waiting) Less(i, j int) bool {
	if w[i].time != w[j].time {
		return w[i].time > w[j].time
	}
	return sha.Compare(w[i].id, w[j].id) < 0
}

func (w waiting) Swap(i, j int) { w[i], w[j] = w[j], w[i] }

func (w *waiting) Push(x any) { *w = append(*w, x.(entry)) }

func (w *waiting) Pop() any {
	last := len(*w) - 1
	e := (*w)[last]
	*w = (*w)[:last]
	return e
}

// listed answers all commits of a history; each one waits till all that name it as a parent are listed.
func (h *history) listed() []api.Id {
	named := h.named(h.ids)
	var next waiting
	for _, id := range h.ids {
		if named[id] == 0 {
			heap.Push(&next, entry{id: id, time: h.commits[id].time})
		}
	}
	var list []api.Id
	for next.Len() > 0 {
		e := heap.Pop(&next).(entry)
		list = append(list, e.id)
		for _, parent := range h.commits[e.id].parents {
			named[parent]--
			if named[parent] == 0 {
				heap.Push(&next, entry{id: parent, time: h.commits[parent].time})
			}
		}
	}
	return list
}
