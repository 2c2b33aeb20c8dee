package packidx_test

import (
	"bytes"
	"crypto/sha256"
	"encoding/binary"
	"math/rand"
	"slices"
	"sort"
	"testing"

	"codicil/api"
	"codicil/packidx"
)

const (
	long = 1 << 31
	top  = 1<<64 - 1
)

// first answers what an index begins with.
func first() []byte { return []byte{0xff, 0x74, 0x4f, 0x63, 0, 0, 0, 2} }

// laid is an index by its parts, whether they fit or not.
type laid struct {
	head   []byte
	fan    [256]uint32
	ids    []api.Id
	crcs   []uint32
	shorts []uint32
	longs  []uint64
	pack   api.Id
}

// unsealed answers the bytes of the parts, without their sum.
func (x laid) unsealed() []byte {
	p := bytes.Clone(x.head)
	for _, v := range x.fan {
		p = binary.BigEndian.AppendUint32(p, v)
	}
	for _, id := range x.ids {
		p = append(p, id[:]...)
	}
	for _, v := range x.crcs {
		p = binary.BigEndian.AppendUint32(p, v)
	}
	for _, v := range x.shorts {
		p = binary.BigEndian.AppendUint32(p, v)
	}
	for _, v := range x.longs {
		p = binary.BigEndian.AppendUint64(p, v)
	}
	return append(p, x.pack[:]...)
}

// bytes answers the bytes of the parts.
func (x laid) bytes() []byte { return sealed(x.unsealed()) }

// sealed answers bytes and their sum.
func sealed(p []byte) []byte {
	sum := sha256.Sum256(p)
	return append(bytes.Clone(p), sum[:]...)
}

// anew answers bytes whose last 32 are the sum of the others.
func anew(p []byte) []byte { return sealed(p[:len(p)-32]) }

// fanOf answers by the chapter's words the fan of ids.
func fanOf(ids []api.Id) [256]uint32 {
	var fan [256]uint32
	for i := range fan {
		for _, id := range ids {
			if int(id[0]) <= i {
				fan[i]++
			}
		}
	}
	return fan
}

// byId answers the rows by their ids, in new memory.
func byId(rows []packidx.Row) []packidx.Row {
	l := append([]packidx.Row{}, rows...)
	sort.SliceStable(l, func(i, j int) bool { return string(l[i].Id[:]) < string(l[j].Id[:]) })
	return l
}

// lay answers by the chapter's words the parts of an index of rows.
func lay(rows []packidx.Row, pack api.Id) laid {
	x := laid{head: first(), pack: pack}
	for _, row := range byId(rows) {
		x.ids = append(x.ids, row.Id)
		x.crcs = append(x.crcs, row.Crc)
		if row.At < long {
			x.shorts = append(x.shorts, uint32(row.At))
			continue
		}
		x.shorts = append(x.shorts, uint32(long+len(x.longs)))
		x.longs = append(x.longs, row.At)
	}
	x.fan = fanOf(x.ids)
	return x
}

// plainBuild answers by the chapter's words the bytes of an index.
func plainBuild(rows []packidx.Row, pack api.Id) ([]byte, api.Errno) {
	if len(rows) > 4096 {
		return nil, api.ErrLong
	}
	there := map[api.Id]bool{}
	for _, row := range rows {
		if there[row.Id] {
			return nil, api.ErrExists
		}
		there[row.Id] = true
	}
	return lay(rows, pack).bytes(), api.OK
}

// plainParse answers by the chapter's words the rows of an index, and the pack's bytes.
func plainParse(p []byte) ([]packidx.Row, api.Id, api.Errno) {
	var none api.Id
	if len(p) < 8+1024+64 {
		return nil, none, api.ErrShort
	}
	if !bytes.HasPrefix(p, first()) {
		return nil, none, api.ErrForm
	}
	var x laid
	for i := range x.fan {
		x.fan[i] = binary.BigEndian.Uint32(p[8+4*i:])
		if i > 0 && x.fan[i] < x.fan[i-1] {
			return nil, none, api.ErrForm
		}
	}
	if x.fan[255] > 4096 {
		return nil, none, api.ErrLimit
	}
	n := int(x.fan[255])
	if len(p) < 8+1024+40*n+64 {
		return nil, none, api.ErrShort
	}
	rest := p[8+1024:]
	x.ids, x.crcs, x.shorts = make([]api.Id, n), make([]uint32, n), make([]uint32, n)
	l := 0
	for i := range n {
		copy(x.ids[i][:], rest[32*i:])
		x.crcs[i] = binary.BigEndian.Uint32(rest[32*n+4*i:])
		x.shorts[i] = binary.BigEndian.Uint32(rest[36*n+4*i:])
		if x.shorts[i] >= long {
			l++
		}
	}
	if len(p) < 8+1024+40*n+8*l+64 {
		return nil, none, api.ErrShort
	}
	if len(p) > 8+1024+40*n+8*l+64 {
		return nil, none, api.ErrForm
	}
	if !bytes.Equal(p, anew(p)) {
		return nil, none, api.ErrSum
	}
	return plainRows(x, rest[40*n:], l)
}

// plainRows answers by the chapter's words the rows of parts, of which just l long places and the pack's bytes stand in rest.
func plainRows(x laid, rest []byte, l int) ([]packidx.Row, api.Id, api.Errno) {
	var pack api.Id
	copy(pack[:], rest[8*l:])
	if x.fan != fanOf(x.ids) {
		return nil, api.Id{}, api.ErrForm
	}
	var rows []packidx.Row
	var named []int
	for i, id := range x.ids {
		if i > 0 && bytes.Compare(x.ids[i-1][:], id[:]) >= 0 {
			return nil, api.Id{}, api.ErrForm
		}
		at := uint64(x.shorts[i])
		if at >= long {
			which := int(at - long)
			named = append(named, which)
			if which >= l {
				return nil, api.Id{}, api.ErrForm
			}
			at = binary.BigEndian.Uint64(rest[8*which:])
		}
		rows = append(rows, packidx.Row{Id: id, Crc: x.crcs[i], At: at})
	}
	for i, which := range named {
		if i != which {
			return nil, api.Id{}, api.ErrForm
		}
	}
	return rows, pack, api.OK
}

// plainFind answers by the chapter's words the row of an id.
func plainFind(p []byte, id api.Id) (packidx.Row, api.Errno) {
	rows, _, e := plainParse(p)
	if e != api.OK {
		return packidx.Row{}, e
	}
	for _, row := range rows {
		if row.Id == id {
			return row, api.OK
		}
	}
	return packidx.Row{}, api.ErrNone
}

// mustBuild answers what Build does, and fails if there is an error.
func mustBuild(t *testing.T, rows []packidx.Row, pack api.Id) []byte {
	t.Helper()
	p, e := packidx.Build(rows, pack)
	if e != api.OK {
		t.Fatalf("Build of %d rows: error %d", len(rows), e)
	}
	return p
}

// wantBuilt fails unless Build answers what the plain model does; it answers the bytes.
func wantBuilt(t *testing.T, what string, rows []packidx.Row, pack api.Id) []byte {
	t.Helper()
	wanted, we := plainBuild(rows, pack)
	p, e := packidx.Build(rows, pack)
	if e != we || !bytes.Equal(p, wanted) {
		t.Fatalf("Build of %s: %d bytes, error %d, wanted %d bytes, error %d", what, len(p), e, len(wanted), we)
	}
	return p
}

// wantNoBuild fails unless Build answers that error, and nothing beside it.
func wantNoBuild(t *testing.T, what string, rows []packidx.Row, wanted api.Errno) {
	t.Helper()
	if p, e := packidx.Build(rows, api.Id{1}); len(p) != 0 || e != wanted {
		t.Errorf("Build of %s: %d bytes, error %d, wanted error %d alone", what, len(p), e, wanted)
	}
}

// wantParsed fails unless Parse answers these rows and these 32 bytes.
func wantParsed(t *testing.T, what string, p []byte, rows []packidx.Row, pack api.Id) {
	t.Helper()
	got, end, e := packidx.Parse(p)
	if e != api.OK || end != pack || !slices.Equal(got, rows) {
		t.Errorf("Parse of %s: %.3v and %x, error %d, wanted %.3v and %x", what, got, end, e, rows, pack)
	}
}

// wantNoParse fails unless Parse and Find answer that error, and nothing beside it.
func wantNoParse(t *testing.T, what string, p []byte, wanted api.Errno) {
	t.Helper()
	if rows, pack, e := packidx.Parse(p); len(rows) != 0 || pack != (api.Id{}) || e != wanted {
		t.Errorf("Parse of %s: %d rows and %x, error %d, wanted error %d alone", what, len(rows), pack, e, wanted)
	}
	for _, id := range []api.Id{{}, {3}, {7, 7}} {
		if row, e := packidx.Find(p, id); row != (packidx.Row{}) || e != wanted {
			t.Errorf("Find in %s: %v, error %d, wanted error %d alone", what, row, e, wanted)
		}
	}
}

// wantPlain fails unless Parse answers what the plain model does; it answers the error.
func wantPlain(t *testing.T, what string, p []byte) api.Errno {
	t.Helper()
	wanted, wantedPack, we := plainParse(p)
	rows, pack, e := packidx.Parse(p)
	if e != we || pack != wantedPack || !slices.Equal(rows, wanted) {
		t.Fatalf("Parse of %s: %d rows and %x, error %d, wanted %d rows and %x, error %d", what, len(rows), pack, e, len(wanted), wantedPack, we)
	}
	return e
}

// idsOf answers n ids that rise, by chance.
func idsOf(r *rand.Rand, n int) []api.Id {
	there := map[api.Id]bool{}
	var ids []api.Id
	for len(ids) < n {
		var id api.Id
		// Few first bytes and few last ones, so that many ids are nearly the same.
		id[0], id[31] = []byte{0, 0, 1, 9, 127, 128, 254, 255, byte(r.Intn(256))}[r.Intn(9)], byte(r.Intn(n+1))
		if r.Intn(3) == 0 {
			r.Read(id[1:])
		}
		if !there[id] {
			there[id] = true
			ids = append(ids, id)
		}
	}
	slices.SortFunc(ids, func(a, b api.Id) int { return bytes.Compare(a[:], b[:]) })
	return ids
}

// placeOf answers a place by chance, often one at an edge.
func placeOf(r *rand.Rand) uint64 {
	edges := []uint64{0, 12, long - 1, long, long + 1, 1<<32 - 1, 1 << 32, 1 << 63, top}
	switch r.Intn(3) {
	case 0:
		return edges[r.Intn(len(edges))]
	case 1:
		return uint64(r.Intn(long))
	}
	return r.Uint64() >> r.Intn(33)
}

// rowsOf answers n rows in any order, by chance.
func rowsOf(r *rand.Rand, n int) []packidx.Row {
	var rows []packidx.Row
	for _, id := range idsOf(r, n) {
		rows = append(rows, packidx.Row{Id: id, Crc: r.Uint32(), At: placeOf(r)})
	}
	r.Shuffle(n, func(i, j int) { rows[i], rows[j] = rows[j], rows[i] })
	return rows
}

// manyRows answers n rows that rise by ids.
func manyRows(n int) []packidx.Row {
	rows := make([]packidx.Row, n)
	for i := range rows {
		rows[i] = packidx.Row{Id: api.Id{byte(i >> 5), byte(i << 3), 7}, Crc: uint32(i) * 0x9e3779b1, At: uint64(i) * 1000003}
	}
	return rows
}

// roomy answers the bytes with spare room that isn't 0.
func roomy(p []byte) []byte {
	q := append(bytes.Clone(p), bytes.Repeat([]byte{0xa5}, 300)...)
	return q[:len(p):len(q)]
}

// wantRoomy fails if bytes made by roomy were changed, or their spare room.
func wantRoomy(t *testing.T, what string, p, was []byte) {
	t.Helper()
	if !bytes.Equal(p, was) || len(bytes.Trim(p[len(p):cap(p)], "\xa5")) != 0 {
		t.Errorf("%s changes its argument", what)
	}
}

// scratch writes over bytes and their spare room.
func scratch(p []byte) {
	p = p[:cap(p)]
	for i := range p {
		p[i] = 0x5a
	}
}

// scratchRows writes over rows and their spare room.
func scratchRows(rows []packidx.Row) {
	rows = rows[:cap(rows)]
	for i := range rows {
		rows[i] = packidx.Row{Id: api.Id{0x5a}, Crc: 0x5a, At: 0x5a}
	}
}
