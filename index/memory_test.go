package index_test

import (
	"bytes"
	"slices"
	"strings"
	"testing"
	"unsafe"

	"codicil/api"
	"codicil/index"
)

// crowded answers slots whose list has spare room, and whose paths are memory of their own.
func crowded(l []api.Slot) []api.Slot {
	list := make([]api.Slot, 0, len(l)+3)
	for _, s := range l {
		s.Path = strings.Clone(s.Path)
		list = append(list, s)
	}
	spare := list[len(list):cap(list)]
	for i := range spare {
		spare[i] = slot("spare", 0)
	}
	return list
}

// wantCrowded fails if slots made by crowded were changed, or their spare room.
func wantCrowded(t *testing.T, what string, l, was []api.Slot) {
	t.Helper()
	changed := func(s api.Slot) bool { return s != slot("spare", 0) }
	if !slices.Equal(l, was) || slices.ContainsFunc(l[len(l):cap(l)], changed) {
		t.Errorf("%s changes its argument", what)
	}
}

// texts answers the paths of slots.
func texts(l []api.Slot) []string {
	var list []string
	for _, s := range l {
		list = append(list, s.Path)
	}
	return list
}

// sharing answers whether two texts share memory. Go keeps each text of one byte once, so those tell nothing.
func sharing(a, b string) bool {
	if len(a) < 2 || len(b) < 2 {
		return false
	}
	x, y := uintptr(unsafe.Pointer(unsafe.StringData(a))), uintptr(unsafe.Pointer(unsafe.StringData(b)))
	return x < y+uintptr(len(b)) && y < x+uintptr(len(a))
}

// wantApart fails if texts share memory with each other or with others.
func wantApart(t *testing.T, what string, list, others []string) {
	t.Helper()
	for i, a := range list {
		for _, b := range slices.Concat(list[i+1:], others) {
			if sharing(a, b) {
				t.Fatalf("%s: %q and %q share memory", what, a, b)
			}
		}
	}
}

// named answers slots whose paths have more than one byte.
func named() []api.Slot {
	return slices.Concat(slots("aa", "bb/cc"), staged("clash", 1, 2, 3), slots("dd"))
}

// 'Memory': Check and Put change nothing, and Put answers new memory.
func TestPutMemory(t *testing.T) {
	was := named()
	l := crowded(was)
	index.Check(l)
	first, _ := index.Put(l)
	second, _ := index.Put(l)
	wantCrowded(t, "Check or Put", l, was)
	second = second[:cap(second)]
	for i := range second {
		second[i] = 0x5a
	}
	clear(l)
	if !bytes.Equal(first, plain(was)) {
		t.Error("Put's answer shares memory")
	}
	l = crowded(append(was, slot("a", 9)))
	index.Check(l)
	index.Put(l)
	wantCrowded(t, "Put with an error", l, append(was, slot("a", 9)))
}

// 'Memory': Parse changes nothing, keeps nothing, and answers new memory.
func TestParseMemory(t *testing.T) {
	was := plain(named())
	for _, wrong := range []int{0, 1, 50, len(was) - 1} {
		q := append(bytes.Clone(was), bytes.Repeat([]byte{0xa5}, 300)...)[:len(was)]
		q[wrong]++
		kept := bytes.Clone(q)
		index.Parse(q)
		if !bytes.Equal(q, kept) || len(bytes.Trim(q[len(q):len(q)+300], "\xa5")) != 0 {
			t.Error("Parse with an error changes its argument")
		}
	}
	q := append(bytes.Clone(was), bytes.Repeat([]byte{0xa5}, 300)...)[:len(was)]
	first, _ := index.Parse(q)
	second, _ := index.Parse(q)
	if !bytes.Equal(q, was) || len(bytes.Trim(q[len(q):len(q)+300], "\xa5")) != 0 {
		t.Error("Parse changes its argument")
	}
	wantApart(t, "Parse", texts(first), append(texts(second), unsafe.String(&q[0], len(q))))
	clear(second[:cap(second)])
	clear(q[:cap(q)])
	if !slices.Equal(first, named()) {
		t.Error("Parse's answer shares memory")
	}
}

// 'Memory': Find changes nothing, and answers new memory.
func TestFindMemory(t *testing.T) {
	l := crowded(named())
	path := strings.Clone("clash")
	one, _ := index.Find(l, path, 2)
	two, _ := index.Find(l, path, 2)
	wantCrowded(t, "Find", l, named())
	wantApart(t, "Find", []string{one.Path, two.Path}, append(texts(l), path))
	index.Find(l, path, 0)
	wantCrowded(t, "Find with an error", l, named())
}

// 'Memory': Set changes nothing, keeps nothing, and answers new memory; of slots that share a path's memory, too.
func TestSetMemory(t *testing.T) {
	l := crowded(named())
	path := strings.Clone("clash")
	for _, stages := range [][]int{nil, {0}, {3, 2, 1}} {
		with := crowded(staged("clash", stages...))
		for i := range with {
			with[i].Path = path
		}
		first, _ := index.Set(l, path, with)
		second, _ := index.Set(l, path, with)
		wantCrowded(t, "Set", l, named())
		wantCrowded(t, "Set", with, staged("clash", stages...))
		wantApart(t, "Set", texts(first), slices.Concat(texts(second), texts(l), []string{path}))
		clear(second[:cap(second)])
		clear(with[:cap(with)])
		if wanted, _ := plainSet(named(), "clash", staged("clash", stages...)); !slices.Equal(first, wanted) {
			t.Error("Set's answer shares memory")
		}
		wantCrowded(t, "who writes over Set's answer", l, named())
	}
	with := crowded(staged("clash", 1, 0))
	index.Set(l, path, with)
	wantCrowded(t, "Set with an error", l, named())
	wantCrowded(t, "Set with an error", with, staged("clash", 1, 0))
}

// P2: what is asked again has the same answer, whatever was asked between; nil and empty lists are the same.
func TestAnsweredAgain(t *testing.T) {
	l := named()
	first, _ := index.Put(l)
	index.Put(many(5000))
	index.Parse(first[:60])
	index.Set(l, "clash", nil)
	wantPut(t, "again", l)
	if second, e := index.Put(l); e != api.OK || !bytes.Equal(first, second) {
		t.Error("Put answers another thing the second time")
	}
	wantSet(t, "empty lists", []api.Slot{}, "a", []api.Slot{}, nil)
	wantSet(t, "nil lists", nil, "a", nil, nil)
	wantSet(t, "the only one goes", slots("a"), "a", []api.Slot{}, nil)
}
