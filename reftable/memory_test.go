package reftable_test

import (
	"bytes"
	"slices"
	"testing"
	"unsafe"

	"codicil/api"
	"codicil/reftable"
)

// within answers whether two texts share memory.
func within(a, b string) bool {
	if a == "" || b == "" {
		return false
	}
	x, y := uintptr(unsafe.Pointer(unsafe.StringData(a))), uintptr(unsafe.Pointer(unsafe.StringData(b)))
	return x < y+uintptr(len(b)) && y < x+uintptr(len(a))
}

// texts answers all texts of a value.
func (v value) texts() []string {
	var list []string
	for _, r := range v.refs {
		list = append(list, r.Name, r.Target)
	}
	for _, n := range v.notes {
		list = append(list, n.Name, n.Who.Name, n.Who.Email, n.Message)
	}
	return list
}

// wantApart fails if texts share memory with each other or with others. Go keeps each text of one byte once, so those tell nothing.
func wantApart(t *testing.T, what string, list, others []string) {
	t.Helper()
	for i, a := range list {
		for _, b := range slices.Concat(list[i+1:], others) {
			if len(a) > 1 && len(b) > 1 && within(a, b) {
				t.Fatalf("%s: %q and %q share memory", what, a, b)
			}
		}
	}
}

// 'Memory': Write changes nothing, its lists' spare room neither, and answers new memory.
func TestWriteMemory(t *testing.T) {
	was := longer()
	v := was.copied()
	v.refs = append(v.refs, at("refs/spare/a", 1))[:len(was.refs)]
	v.notes = append(v.notes, note("refs/spare/a", 1))[:len(was.notes)]
	first, _ := v.write()
	second, _ := v.write()
	if !v.same(was) || v.refs[:len(v.refs)+1][len(v.refs)] != at("refs/spare/a", 1) || v.notes[:len(v.notes)+1][len(v.notes)] != note("refs/spare/a", 1) {
		t.Error("Write changes its arguments")
	}
	second = second[:cap(second)]
	for i := range second {
		second[i] = 0x5a
	}
	if !bytes.Equal(first, was.plain()) {
		t.Error("Write's answers share memory")
	}
	for i := range v.refs {
		v.refs[i] = api.Ref{}
	}
	if !bytes.Equal(first, was.plain()) {
		t.Error("Write's answer shares memory with its arguments")
	}
}

// 'Memory': Read changes nothing, and its answers share none with the bytes and among each other.
func TestReadMemory(t *testing.T) {
	was := longer()
	p := was.plain()
	q := append(bytes.Clone(p), bytes.Repeat([]byte{0xa5}, 200)...)[:len(p)]
	first, _ := read(q)
	second, _ := read(q)
	if !bytes.Equal(q, p) || len(bytes.Trim(q[len(q):len(q)+200], "\xa5")) != 0 {
		t.Error("Read changes its argument")
	}
	wantApart(t, "Read", first.texts(), append(second.texts(), unsafe.String(&q[0], len(q))))
	for i := range q {
		q[i] = 0x5a
	}
	for i := range second.refs[:cap(second.refs)] {
		second.refs[:cap(second.refs)][i] = api.Ref{}
	}
	for i := range second.notes[:cap(second.notes)] {
		second.notes[:cap(second.notes)][i] = api.Note{}
	}
	if !first.same(was) {
		t.Error("Read's answer shares memory")
	}
}

// P2: what is asked again has the same answer, whatever was asked between.
func TestAnsweredAgain(t *testing.T) {
	v := longer()
	first, _ := v.write()
	reftable.Read(first[:50])
	reftable.Write(nil, nil, 0, 0)
	good().write()
	if second, e := v.write(); !bytes.Equal(first, second) || e != api.OK {
		t.Error("Write answers another thing the second time")
	}
	if back, e := read(first); !back.same(v) || e != api.OK {
		t.Error("Read answers another thing the second time")
	}
}
