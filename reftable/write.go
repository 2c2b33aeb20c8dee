package reftable

import (
	"math"

	"codicil/api"
	"codicil/num"
	"codicil/zlib"
)

const fixedWay = 1 // of zlib's

// Write answers the bytes of references and notes, with the least and the greatest number that notes may have.
func Write(refs []api.Ref, notes []api.Note, min, max int) ([]byte, api.Errno) {
	if errno := check(refs, notes, min, max); errno != api.OK {
		return nil, errno
	}
	out := appendHeader(nil, min, max)
	if len(refs) > 0 {
		out = append(out, refBlock(refs)...)
	}
	notesAt := 0
	if len(notes) > 0 {
		block, errno := noteBlock(notes)
		if errno != api.OK {
			return nil, errno
		}
		notesAt = len(out)
		out = append(out, block...)
	}
	out = append(out, footer(min, max, notesAt)...)
	if len(out) > api.MaxData {
		return nil, api.ErrLong
	}
	return out, api.OK
}

// appendHeader puts the header behind out itself.
func appendHeader(out []byte, min, max int) []byte {
	out = append(out, magic...)
	out = appendBig(out, uint64(min), numberSize)
	out = appendBig(out, uint64(max), numberSize)
	return append(out, hashName...)
}

// footer answers the bytes at the end; the places of indices, which are never written, are 0.
func footer(min, max, notesAt int) []byte {
	out := appendHeader(nil, min, max)
	for _, place := range [...]int{0, 0, 0, notesAt, 0} {
		out = appendBig(out, uint64(place), numberSize)
	}
	return appendBig(out, uint64(zlib.Crc(out)), sumSize)
}

// refBlock answers the block of references, which stands right behind the header.
func refBlock(refs []api.Ref) []byte {
	list := records{first: headerSize + blockHead}
	for _, r := range refs {
		list.add(r.Name, wayOf(r), refValue(r))
	}
	body := list.bytes()
	return append(blockFront(refLetter, list.first+len(body)), body...)
}

// wayOf answers by which way a reference is told.
func wayOf(r api.Ref) int {
	switch {
	case r.Target != "":
		return targetWay
	case r.Id != (api.Id{}):
		return idWay
	}
	return goneWay
}

// refValue answers what stands behind a reference's key: first a number beyond the table's least one, which is always 0.
func refValue(r api.Ref) []byte {
	out := appendSpan(nil, 0)
	switch wayOf(r) {
	case idWay:
		out = append(out, r.Id[:]...)
	case targetWay:
		out = appendText(out, r.Target)
	}
	return out
}

// noteBlock answers the block of notes. ErrLong: it would have more bytes than zlib wraps.
func noteBlock(notes []api.Note) ([]byte, api.Errno) {
	list := records{first: blockHead}
	for _, n := range notes {
		list.add(noteKey(n), noteWay, noteValue(n))
	}
	body := list.bytes()
	stream, errno := zlib.Wrap(body, fixedWay)
	if errno != api.OK {
		return nil, errno
	}
	return append(blockFront(noteLetter, list.first+len(body)), stream...), api.OK
}

// noteKey answers a note's key; by it the newest note of a name comes first.
func noteKey(n api.Note) string {
	return string(appendBig(append([]byte(n.Name), 0), math.MaxUint64-uint64(n.Index), numberSize))
}

// noteValue answers what stands behind a note's key.
func noteValue(n api.Note) []byte {
	var out []byte
	out = append(out, n.Old[:]...)
	out = append(out, n.New[:]...)
	out = appendText(out, n.Who.Name)
	out = appendText(out, n.Who.Email)
	out = appendSpan(out, n.Who.Time)
	out = appendBig(out, uint64(uint16(n.Who.Zone)), zoneSize)
	return appendText(out, n.Message)
}

// blockFront answers the first bytes of a block.
func blockFront(letter byte, size int) []byte {
	return appendBig([]byte{letter}, uint64(size), placeSize)
}

// records is the records of a block as they are added.
type records struct {
	first    int    // the place of the first one
	data     []byte // of all
	restarts []byte // their places
	count    int
	ahead    string // the key of the last one
}

// add puts a record behind the others.
func (l *records) add(key string, way int, value []byte) {
	common := 0
	if l.count%restartEvery == 0 {
		l.restarts = appendBig(l.restarts, uint64(l.first+len(l.data)), placeSize)
	} else {
		common = inCommon(l.ahead, key)
	}
	l.data = appendSpan(l.data, common)
	l.data = appendSpan(l.data, wayCount*(len(key)-common)+way)
	l.data = append(l.data, key[common:]...)
	l.data = append(l.data, value...)
	l.count++
	l.ahead = key
}

// bytes answers the records, the restarts and their count.
func (l *records) bytes() []byte {
	out := append(l.data, l.restarts...)
	return appendBig(out, uint64(len(l.restarts)/placeSize), countSize)
}

// inCommon answers how many bytes two keys have in common at their fronts.
func inCommon(a, b string) int {
	n := 0
	for n < len(a) && n < len(b) && a[n] == b[n] {
		n++
	}
	return n
}

// appendBig puts a number that has room in so many bytes behind out itself, which must be the caller's own memory; so do
// appendSpan and appendText with a span, and with a text and ahead of it the count of its bytes.
func appendBig(out []byte, v uint64, size int) []byte {
	p, _ := num.PutBig(nil, v, size)
	return append(out, p...)
}

func appendSpan(out []byte, v int) []byte {
	return append(out, num.PutSpan(nil, uint64(v))...)
}

func appendText(out []byte, text string) []byte {
	return append(appendSpan(out, len(text)), text...)
}
