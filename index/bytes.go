package index

import (
	"bytes"

	"codicil/api"
	"codicil/num"
	"codicil/sha"
)

const (
	magic      = "DIRC\x00\x00\x00\x02"
	numberSize = 4
	headSize   = len(magic) + numberSize
	sumSize    = len(api.Id{})
	multiple   = 8 // of which a slot's count of bytes is one
	stageUnit  = 1 << 12
	maxBytes   = 2 * api.MaxData
)

// The places of a slot's fields; between them stand bytes 0.
const (
	timeAt   = 8
	modeAt   = timeAt + numberSize + 12
	sizeAt   = modeAt + numberSize + 8
	idAt     = sizeAt + numberSize
	countAt  = idAt + sumSize // of the path's bytes, and the stage beside it
	countLen = 2
	pathAt   = countAt + countLen
)

// Put answers the bytes of slots.
func Put(l []api.Slot) ([]byte, api.Errno) {
	if errno := Check(l); errno != api.OK {
		return nil, errno
	}
	out := appendNumber([]byte(magic), len(l), numberSize)
	for _, s := range l {
		out = append(out, slotBytes(s)...)
	}
	sum := sha.Sum(out)
	return append(out, sum[:]...), api.OK
}

// slotBytes answers the bytes of a slot that is in form.
func slotBytes(s api.Slot) []byte {
	out := make([]byte, slotSize(len(s.Path)))
	putNumber(out[timeAt:], s.Time, numberSize)
	putNumber(out[modeAt:], s.Mode, numberSize)
	putNumber(out[sizeAt:], s.Size, numberSize)
	copy(out[idAt:], s.Id[:])
	// A path has at most MaxPath bytes: their count is always below that which would stand for a greater one.
	putNumber(out[countAt:], stageUnit*s.Stage+len(s.Path), countLen)
	copy(out[pathAt:], s.Path)
	return out
}

// slotSize answers how many bytes a slot has whose path has so many: at least one byte 0 stands behind the path.
func slotSize(count int) int {
	return (pathAt+count)/multiple*multiple + multiple
}

// putNumber writes a number that has room in so many bytes at the front of out; appendNumber puts one behind out itself,
// which must be the caller's own memory.
func putNumber(out []byte, n, size int) {
	copy(out, appendNumber(nil, n, size))
}

func appendNumber(out []byte, n, size int) []byte {
	p, _ := num.PutBig(nil, uint64(n), size)
	return append(out, p...)
}

// Parse answers the slots of which p is put.
func Parse(p []byte) ([]api.Slot, api.Errno) {
	switch {
	case len(p) > maxBytes:
		return nil, api.ErrLong
	case len(p) < headSize+sumSize:
		return nil, api.ErrForm
	}
	end := len(p) - sumSize
	l := slotsOf(p[headSize:end])
	// What was read as if it were in form is so just if it is put as these bytes.
	again, errno := Put(l)
	if errno != api.OK || len(again) != len(p) || !bytes.Equal(again[:end], p[:end]) {
		return nil, api.ErrForm
	}
	if !bytes.Equal(again[end:], p[end:]) {
		return nil, api.ErrSum
	}
	return l, api.OK
}

// slotsOf reads slots till the bytes that are left are too few for one.
func slotsOf(p []byte) []api.Slot {
	var l []api.Slot
	for len(p) >= slotSize(0) {
		s := firstSlot(p)
		l = append(l, s)
		p = p[min(len(p), slotSize(len(s.Path))):]
	}
	return l
}

// firstSlot reads the slot that stands at the front of p; its path ends where p does at the latest.
func firstSlot(p []byte) api.Slot {
	counted := number(p, countAt, countLen)
	end := min(len(p), pathAt+counted%stageUnit)
	return api.Slot{
		Path:  string(p[pathAt:end]),
		Stage: counted / stageUnit,
		Mode:  number(p, modeAt, numberSize),
		Id:    api.Id(p[idAt:countAt]),
		Size:  number(p, sizeAt, numberSize),
		Time:  number(p, timeAt, numberSize),
	}
}

// number answers the number that so many bytes from at on are.
func number(p []byte, at, size int) int {
	v, _ := num.Big(p, at, size)
	return int(v)
}
