package reftable

import (
	"bytes"
	"math"

	"codicil/api"
	"codicil/num"
	"codicil/zlib"
)

const (
	idSize    = len(api.Id{})
	keyEnd    = 1 + numberSize          // of a note's key, behind the name
	maxKey    = api.MaxPath + keyEnd    // no key that may be has more bytes
	leastSize = headerSize + footerSize // without blocks
)

// table is what bytes say.
type table struct {
	refs     []api.Ref
	notes    []api.Note
	min, max int
}

// Read answers the references and the notes of a table, and its least and its greatest number.
func Read(p []byte) ([]api.Ref, []api.Note, int, int, api.Errno) {
	if len(p) > api.MaxData {
		return nil, nil, 0, 0, api.ErrLong
	}
	t, readable := parse(p)
	if !readable {
		return nil, nil, 0, 0, api.ErrForm
	}
	// What was read as if it were in form is so just if it is written as these bytes.
	again, errno := Write(t.refs, t.notes, t.min, t.max)
	if errno != api.OK || !bytes.Equal(again, p) {
		return nil, nil, 0, 0, api.ErrForm
	}
	return t.refs, t.notes, t.min, t.max, api.OK
}

// parse reads a table without asking more of its bytes than it takes to get through them.
func parse(p []byte) (table, bool) {
	if len(p) < leastSize {
		return table{}, false
	}
	whole := reader{p: p[:len(p)-footerSize], at: len(magic)}
	t := table{min: int(whole.big(numberSize)), max: int(whole.big(numberSize))}
	whole.take(uint64(len(hashName)))
	if whole.next() == refLetter {
		size := whole.blockSize()
		list := openRecords(whole.take(size - uint64(headerSize+blockHead)))
		for list.more() {
			t.refs = append(t.refs, list.ref())
		}
		whole.bad = whole.bad || list.bad
	}
	if whole.next() == noteLetter {
		whole.blockSize()
		body, _, errno := zlib.Unwrap(whole.rest(), api.MaxData)
		list := openRecords(body)
		for list.more() {
			t.notes = append(t.notes, list.note())
		}
		whole.bad = whole.bad || list.bad || errno != api.OK
	}
	return t, !whole.bad
}

// reader goes through bytes from a place on. Where they aren't enough it is bad from then on, and answers zero values.
type reader struct {
	p   []byte
	at  int
	bad bool
}

// next answers the byte that comes next, and 0 at the end.
func (r *reader) next() byte {
	if r.bad || r.at == len(r.p) {
		return 0
	}
	return r.p[r.at]
}

// rest answers all bytes that are left.
func (r *reader) rest() []byte {
	return r.take(uint64(len(r.p) - r.at))
}

// take answers so many bytes; they are those of p itself.
func (r *reader) take(count uint64) []byte {
	if r.bad || count > uint64(len(r.p)-r.at) {
		r.bad = true
		return nil
	}
	begin := r.at
	r.at += int(count)
	return r.p[begin:r.at]
}

// text answers a text, ahead of which the count of its bytes stands.
func (r *reader) text() string {
	return string(r.take(r.span()))
}

// id answers an id.
func (r *reader) id() api.Id {
	var id api.Id
	copy(id[:], r.take(uint64(idSize)))
	return id
}

// big answers a number of so many bytes.
func (r *reader) big(size int) uint64 {
	v, _ := num.Big(r.take(uint64(size)), 0, size)
	return v
}

// span answers a span.
func (r *reader) span() uint64 {
	v, behind, errno := num.Span(r.p, r.at)
	if r.bad || errno != api.OK {
		r.bad = true
		return 0
	}
	r.at = behind
	return v
}

// blockSize answers the size that a block tells at its front.
func (r *reader) blockSize() uint64 {
	r.take(1)
	return r.big(placeSize)
}

// recordReader goes through the records of a block.
type recordReader struct {
	reader
	count int    // of those that were read
	key   []byte // of the last one
}

// openRecords answers a reader of the records that stand ahead of a block's restarts.
func openRecords(body []byte) *recordReader {
	r := &recordReader{}
	restarts, errno := num.Big(body, len(body)-countSize, countSize)
	end := len(body) - countSize - placeSize*int(restarts)
	if errno != api.OK || end < 0 {
		r.bad = true
		return r
	}
	r.p = body[:end]
	return r
}

// more answers whether a further record stands there. More than there may be aren't read at all.
func (r *recordReader) more() bool {
	r.bad = r.bad || r.count > api.MaxEntries
	return !r.bad && r.at < len(r.p)
}

// head reads the key of a record, and answers its way.
func (r *recordReader) head() uint64 {
	r.count++
	common, counted := r.span(), r.span()
	other := r.take(counted / wayCount)
	// A few bytes could tell many long keys, each by the one ahead: none that is too long is kept.
	if common > uint64(len(r.key)) || common+uint64(len(other)) > uint64(maxKey) {
		r.bad = true
		return 0
	}
	r.key = append(r.key[:common], other...)
	return counted % wayCount
}

// ref answers the next record as a reference.
func (r *recordReader) ref() api.Ref {
	way := r.head()
	ref := api.Ref{Name: string(r.key)}
	r.span()
	switch way {
	case idWay:
		ref.Id = r.id()
	case targetWay:
		ref.Target = r.text()
	}
	return ref
}

// note answers the next record as a note.
func (r *recordReader) note() api.Note {
	r.head()
	if len(r.key) < keyEnd {
		r.bad = true
		return api.Note{}
	}
	nameEnd := len(r.key) - keyEnd
	number, _ := num.Big(r.key, nameEnd+1, numberSize)
	n := api.Note{Name: string(r.key[:nameEnd]), Index: int(math.MaxUint64 - number)}
	n.Old, n.New = r.id(), r.id()
	n.Who.Name, n.Who.Email = r.text(), r.text()
	n.Who.Time = int(r.span())
	n.Who.Zone = int(int16(r.big(zoneSize)))
	n.Message = r.text()
	return n
}
