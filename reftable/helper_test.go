package reftable_test

import (
	"bytes"
	"encoding/binary"
	"encoding/hex"
	"fmt"
	"hash/crc32"
	"slices"
	"strings"
	"testing"

	"codicil/api"
	"codicil/reftable"
	"codicil/zlib"
)

// gone, at and to answer a reference: one that is gone, one with an Id, one with a Target.
func gone(name string) api.Ref { return api.Ref{Name: name} }

func at(name string, first byte) api.Ref { return api.Ref{Name: name, Id: api.Id{first, 31: 9}} }

func to(name, target string) api.Ref { return api.Ref{Name: name, Target: target} }

// me is an ident.
func me() api.Ident { return api.Ident{Name: "A B", Email: "a@b", Time: 5, Zone: -90} }

// note answers a note.
func note(name string, index int) api.Note {
	return api.Note{Name: name, Index: index, Old: api.Id{1, 31: 2}, New: api.Id{3, 31: 4}, Who: me(), Message: "done"}
}

// value is what a table says.
type value struct {
	refs     []api.Ref
	notes    []api.Note
	min, max int
}

// write answers Write's bytes of a value.
func (v value) write() ([]byte, api.Errno) { return reftable.Write(v.refs, v.notes, v.min, v.max) }

// read answers what Read does, as a value.
func read(p []byte) (value, api.Errno) {
	refs, notes, min, max, e := reftable.Read(p)
	return value{refs, notes, min, max}, e
}

// same answers whether two values are the same.
func (v value) same(w value) bool {
	return slices.Equal(v.refs, w.refs) && slices.Equal(v.notes, w.notes) && v.min == w.min && v.max == w.max
}

// empty answers whether a value is all zero values.
func (v value) empty() bool { return len(v.refs) == 0 && len(v.notes) == 0 && v.min == 0 && v.max == 0 }

// copied answers a value in lists of its own.
func (v value) copied() value {
	return value{slices.Clone(v.refs), slices.Clone(v.notes), v.min, v.max}
}

// big answers a number in so many bytes, and span one as a span, by chapter 2's words.
func big(v uint64, size int) []byte {
	return binary.BigEndian.AppendUint64(nil, v)[8-size:]
}

func span(v uint64) []byte {
	p := []byte{byte(v % 128)}
	for v >= 128 {
		v = v/128 - 1
		p = append([]byte{128 + byte(v%128)}, p...)
	}
	return p
}

// text answers a text with the count of its bytes ahead.
func text(s string) []byte { return append(span(uint64(len(s))), s...) }

// record is a record's key, its way and what stands behind the key.
type record struct {
	key  string
	way  int
	rest []byte
}

// recordOf answers the record of a reference.
func recordOf(r api.Ref) record {
	switch {
	case r.Target != "":
		return record{r.Name, 3, append([]byte{0}, text(r.Target)...)}
	case r.Id != api.Id{}:
		return record{r.Name, 1, append([]byte{0}, r.Id[:]...)}
	}
	return record{r.Name, 0, []byte{0}}
}

// noteRecord answers the record of a note.
func noteRecord(n api.Note) record {
	key := n.Name + "\x00" + string(big(^uint64(0)-uint64(n.Index), 8))
	zone := big(uint64(uint16(n.Who.Zone)), 2)
	rest := slices.Concat(n.Old[:], n.New[:], text(n.Who.Name), text(n.Who.Email), span(uint64(n.Who.Time)), zone, text(n.Message))
	return record{key, 1, rest}
}

// body is a block's records as they shall be laid, with all that may be told in another way.
type body struct {
	first    int // the place of the first record
	list     []record
	every    int   // so many records from restart to restart
	restarts []int // beyond those by every: places in the list
	less     int   // so many bytes fewer in common than there are
	counted  int   // more restarts than there are
}

// bytes answers the block's bytes from the first record on.
func (b body) bytes() []byte {
	var data, places []byte
	count := 0
	for i, r := range b.list {
		common := 0
		if i%b.every == 0 || slices.Contains(b.restarts, i) {
			places = append(places, big(uint64(b.first+len(data)), 3)...)
			count++
		} else {
			for ahead := b.list[i-1].key; common < len(ahead) && common < len(r.key) && ahead[common] == r.key[common]; {
				common++
			}
			common = max(0, common-b.less)
		}
		data = slices.Concat(data, span(uint64(common)), span(uint64(8*(len(r.key)-common)+r.way)), []byte(r.key[common:]), r.rest)
	}
	return slices.Concat(data, places, big(uint64(count+b.counted), 2))
}

// refBody and noteBody answer the records of a value, as they are to be laid.
func (v value) refBody() body {
	b := body{first: 32, every: 16}
	for _, r := range v.refs {
		b.list = append(b.list, recordOf(r))
	}
	return b
}

func (v value) noteBody() body {
	b := body{first: 4, every: 16}
	for _, n := range v.notes {
		b.list = append(b.list, noteRecord(n))
	}
	return b
}

// wrapped answers the bytes as zlib.Wrap does in a way.
func wrapped(p []byte, way int) []byte {
	q, e := zlib.Wrap(p, way)
	if e != api.OK {
		panic(fmt.Sprintf("Wrap: error %d", e))
	}
	return q
}

// refBlock and noteBlock answer a block around these bytes.
func refBlock(body []byte) []byte {
	return slices.Concat([]byte{'r'}, big(uint64(32+len(body)), 3), body)
}

func noteBlock(body []byte) []byte {
	return slices.Concat([]byte{'g'}, big(uint64(4+len(body)), 3), wrapped(body, 1))
}

// header answers the first 28 bytes.
func header(min, max int) []byte {
	return slices.Concat([]byte("REFT\x02\x00\x00\x00"), big(uint64(min), 8), big(uint64(max), 8), []byte("s256"))
}

// sealed answers bytes and behind them their sum.
func sealed(p []byte) []byte {
	return binary.BigEndian.AppendUint32(bytes.Clone(p), crc32.ChecksumIEEE(p))
}

// frame answers a table around blocks, each empty if there is none.
func frame(min, max int, refs, notes []byte) []byte {
	place := 0
	if len(notes) > 0 {
		place = 28 + len(refs)
	}
	footer := sealed(slices.Concat(header(min, max), make([]byte, 24), big(uint64(place), 8), make([]byte, 8)))
	return slices.Concat(header(min, max), refs, notes, footer)
}

// blocks answers the two blocks of a value.
func (v value) blocks() (refs, notes []byte) {
	if len(v.refs) > 0 {
		refs = refBlock(v.refBody().bytes())
	}
	if len(v.notes) > 0 {
		notes = noteBlock(v.noteBody().bytes())
	}
	return refs, notes
}

// plain answers by the chapter's words the bytes of a value.
func (v value) plain() []byte {
	refs, notes := v.blocks()
	return frame(v.min, v.max, refs, notes)
}

// wantWritten fails unless Write answers what the chapter's words say, and Read what was written; it answers the bytes.
func wantWritten(t *testing.T, what string, v value) []byte {
	t.Helper()
	p, e := v.write()
	if wanted := v.plain(); e != api.OK || !bytes.Equal(p, wanted) {
		t.Fatalf("Write, %s: error %d, %d bytes, wanted %d\n%.400x\n%.400x", what, e, len(p), len(wanted), p, wanted)
	}
	if back, e := read(p); e != api.OK || !back.same(v) {
		t.Fatalf("Read, %s: error %d, %.300v, wanted %.300v", what, e, fmt.Sprint(back), fmt.Sprint(v))
	}
	return p
}

// wantRefused fails unless Write answers that error alone.
func wantRefused(t *testing.T, what string, v value, wanted api.Errno) {
	t.Helper()
	if p, e := v.write(); e != wanted || len(p) != 0 {
		t.Errorf("Write, %s: %d bytes, error %d, wanted error %d alone", what, len(p), e, wanted)
	}
}

// wantUnread fails unless Read answers that error alone.
func wantUnread(t *testing.T, what string, p []byte, wanted api.Errno) {
	t.Helper()
	if v, e := read(p); e != wanted || !v.empty() {
		t.Errorf("Read, %s: %.200v, error %d, wanted error %d alone", what, fmt.Sprint(v), e, wanted)
	}
}

// wantHex fails unless bytes are these, told in digits with blanks between.
func wantHex(t *testing.T, what string, p []byte, digits string) {
	t.Helper()
	if got := hex.EncodeToString(p); got != strings.ReplaceAll(digits, " ", "") {
		t.Errorf("%s: %s, wanted %s", what, got, digits)
	}
}

// letters answers a text of n letters.
func letters(n int) string { return strings.Repeat("a", n) }
