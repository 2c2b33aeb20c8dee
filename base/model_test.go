package base_test

import (
	"bytes"
	"math/rand"
	"slices"
	"strconv"
	"testing"

	"codicil/api"
	"codicil/base"
)

// model is commits by chance: each one's parents stand ahead of it. Some have an error.
type model struct {
	objects []api.Object
	parents [][]int
	times   []int
	errnos  []api.Errno
	files   []api.File
}

// anyModel answers up to n commits by chance, of which one in so many has an error (0: none).
func anyModel(t *testing.T, r *rand.Rand, n, wrong int) model {
	var m model
	for i := range 1 + r.Intn(n) {
		var parents []int
		var ids []api.Id
		// Three stand beside one another, most parents being those of the three ahead: so many have several best common ancestors.
		for range min(i/3*3, r.Intn(5)) {
			parent := (i/3-1)*3 + r.Intn(3)
			if r.Intn(5) == 0 {
				parent = r.Intn(i)
			}
			parents = append(parents, parent)
			ids = append(ids, idOf(m.objects[parent]))
		}
		o, time, errno := commit(strconv.Itoa(i), r.Intn(6), ids...), 0, api.OK
		if wrong > 0 && r.Intn(wrong) == 0 {
			o, parents = broken("broken "+strconv.Itoa(i)), nil
			errno = []api.Errno{api.ErrNone, api.ErrType, api.ErrForm, api.ErrSum}[r.Intn(4)]
			if errno == api.ErrType {
				o = blob("blob " + strconv.Itoa(i))
			}
		} else {
			time = timeOf(o)
		}
		m.objects = append(m.objects, o)
		m.parents = append(m.parents, parents)
		m.times = append(m.times, time)
		m.errnos = append(m.errnos, errno)
	}
	m.files = m.made(t, r.Intn(2) == 0)
	return m
}

// timeOf answers the committer's time of a commit made by commit.
func timeOf(o api.Object) int {
	_, text, _ := bytes.Cut(o.Data, []byte("committer  <> "))
	time, _ := strconv.Atoi(string(text[:bytes.IndexByte(text, ' ')]))
	return time
}

// made answers the files of a model, with files of their own, or in a pack as far as that can be.
func (m model) made(t *testing.T, inPack bool) []api.File {
	var list []api.Object
	for i, o := range m.objects {
		if m.errnos[i] != api.ErrNone {
			list = append(list, o)
		}
	}
	if inPack && !slices.Contains(m.errnos, api.ErrSum) {
		return packed(t, list...)
	}
	files := own(list...)
	for i, o := range m.objects {
		if m.errnos[i] == api.ErrSum {
			files = changed(files, o, func([]byte) []byte { return own(blob("another"))[0].Data })
		}
	}
	return files
}

// id answers the id of a commit of the model, ids those of several.
func (m model) id(i int) api.Id { return idOf(m.objects[i]) }

func (m model) ids(list []int) []api.Id {
	var ids []api.Id
	for _, i := range list {
		ids = append(ids, m.id(i))
	}
	return ids
}

// ancestor answers by the chapter's words whether a is an ancestor of b.
func (m model) ancestor(a, b int) bool {
	return a == b || slices.ContainsFunc(m.parents[b], func(parent int) bool { return m.ancestor(a, parent) })
}

// errno answers by the chapter's words the first error that is met from these commits.
func (m model) errno(from ...int) api.Errno {
	queue := slices.Clone(from)
	var met []int
	for len(queue) > 0 {
		i := queue[0]
		queue = queue[1:]
		if slices.Contains(met, i) {
			continue
		}
		if m.errnos[i] != api.OK {
			return m.errnos[i]
		}
		met = append(met, i)
		queue = append(queue, m.parents[i]...)
	}
	return api.OK
}

// walk answers by the chapter's words all ancestors of these commits, in order.
func (m model) walk(from ...int) []int {
	all := map[int]int{}
	for i := range m.objects {
		for _, tip := range from {
			if m.ancestor(i, tip) {
				all[i]++
			}
		}
	}
	var list []int
	for len(all) > 0 {
		best := -1
		for i := range m.objects {
			if all[i] == 0 {
				continue
			}
			waits := false
			for child := range all {
				waits = waits || slices.Contains(m.parents[child], i)
			}
			if !waits && (best < 0 || m.ahead(i, best)) {
				best = i
			}
		}
		list = append(list, best)
		delete(all, best)
	}
	return list
}

// ahead answers whether of two commits that can be listed the first one is.
func (m model) ahead(i, j int) bool {
	a, b := m.id(i), m.id(j)
	return m.times[i] > m.times[j] || m.times[i] == m.times[j] && bytes.Compare(a[:], b[:]) < 0
}

// bases answers by the chapter's words the best common ancestors of two commits.
func (m model) bases(a, b int) []int {
	var common, best []int
	for i := range m.objects {
		if m.ancestor(i, a) && m.ancestor(i, b) {
			common = append(common, i)
		}
	}
	for _, i := range common {
		if !slices.ContainsFunc(common, func(j int) bool { return i != j && m.ancestor(i, j) }) {
			best = append(best, i)
		}
	}
	return best
}

// wantModel fails unless Walk, Within and Bases of these commits answer what the chapter's words do.
func wantModel(t *testing.T, m model, from []int, a, b int) {
	t.Helper()
	if errno := m.errno(from...); errno != api.OK {
		wantError(t, "by chance", m.files, errno, m.ids(from)...)
	} else {
		wantWalk(t, "by chance", m.files, m.ids(from), m.ids(m.walk(from...))...)
	}
	if errno := m.errno(b); errno != api.OK {
		wantError(t, "by chance", m.files, errno, m.id(b))
	} else {
		wantWithin(t, "by chance", m.files, m.id(a), m.id(b), m.ancestor(a, b))
	}
	if errno := m.errno(a, b); errno != api.OK {
		wantError(t, "by chance", m.files, errno, m.id(a), m.id(b))
		return
	}
	wantBases(t, "by chance", m.files, m.id(a), m.id(b), m.ids(m.bases(a, b))...)
	// P22.3.
	wantBases(t, "by chance, one commit", m.files, m.id(a), m.id(a), m.id(a))
	if m.ancestor(a, b) {
		wantBases(t, "by chance, within", m.files, m.id(a), m.id(b), m.id(a))
	}
}

// P22.1 to P22.3: commits by chance against the chapter's words.
func TestByChance(t *testing.T) {
	r := rand.New(rand.NewSource(22))
	counts := map[int]int{}
	for range 300 {
		m := anyModel(t, r, 21, 0)
		n := len(m.objects)
		for range 8 {
			var from []int
			for range r.Intn(5) {
				from = append(from, r.Intn(n))
			}
			a, b := max(r.Intn(n), r.Intn(n)), max(r.Intn(n), r.Intn(n))
			wantModel(t, m, from, a, b)
			counts[min(3, len(m.bases(a, b)))]++
		}
		wantModel(t, m, []int{n - 1}, n-1, max(0, n-2))
	}
	if counts[0] < 50 || counts[1] < 500 || counts[2] < 50 || counts[3] < 5 {
		t.Errorf("too little was tried: %v", counts)
	}
}

// P22.1, P22.2: commits by chance of which some have an error, against the chapter's words.
func TestErrorsByChance(t *testing.T) {
	r := rand.New(rand.NewSource(222))
	counts := map[api.Errno]int{}
	for range 300 {
		m := anyModel(t, r, 21, 8)
		n := len(m.objects)
		for range 8 {
			from := []int{r.Intn(n), r.Intn(n), r.Intn(n)}[r.Intn(3):]
			wantModel(t, m, from, r.Intn(n), r.Intn(n))
			counts[m.errno(from...)]++
		}
	}
	if len(counts) != 5 || counts[api.OK] < 300 || counts[api.ErrNone] < 100 || counts[api.ErrSum] < 100 {
		t.Errorf("too little was tried: %v", counts)
	}
}

// P22.3: in Walk each commit stands ahead of its parents, and is listed once.
func TestWalkAhead(t *testing.T) {
	r := rand.New(rand.NewSource(223))
	for range 20 {
		m := anyModel(t, r, 60, 0)
		var from []api.Id
		for range r.Intn(4) {
			from = append(from, m.id(r.Intn(len(m.objects))))
		}
		ids, e := base.Walk(m.files, from)
		if e != api.OK || len(rising(ids...)) != len(ids) {
			t.Errorf("Walk: %s, error %d", brief(ids), e)
		}
		for i := range m.objects {
			at := slices.Index(ids, m.id(i))
			for _, parent := range m.parents[i] {
				if at >= 0 && slices.Index(ids, m.id(parent)) <= at {
					t.Error("Walk lists a parent ahead of a commit, or doesn't list it")
				}
			}
		}
	}
}
