package packidx_test

import (
	"bytes"
	"math/rand"
	"slices"
	"testing"

	"codicil/api"
	"codicil/packidx"
)

// P10.1: the chapter's examples.
func TestBuildExamples(t *testing.T) {
	z := api.Id{0x2a, 31: 0x17}
	p := mustBuild(t, nil, z)
	if wanted := sealed(slices.Concat(first(), make([]byte, 1024), z[:])); len(p) != 8+1024+64 || !bytes.Equal(p, wanted) {
		t.Errorf("Build of no row: %x, wanted %x", p, wanted)
	}
	if q := mustBuild(t, []packidx.Row{}, z); !bytes.Equal(p, q) {
		t.Errorf("Build of an empty list: %x, of nil: %x", q, p)
	}
	p = mustBuild(t, []packidx.Row{{Id: api.Id{0xff, 31: 1}, Crc: 0x01020304, At: 1 << 31}}, z)
	id := api.Id{0xff, 31: 1}
	wanted := sealed(slices.Concat(first(), make([]byte, 255*4), []byte{0, 0, 0, 1}, id[:], []byte{1, 2, 3, 4}, []byte{0x80, 0, 0, 0}, []byte{0, 0, 0, 0, 0x80, 0, 0, 0}, z[:]))
	if !bytes.Equal(p, wanted) {
		t.Errorf("Build of one row at 2^31: %x, wanted %x", p, wanted)
	}
}

// P10.1: three rows, written out.
func TestBuildByHand(t *testing.T) {
	a, b, c := api.Id{0, 5}, api.Id{0, 6}, api.Id{0xfe, 1}
	rows := []packidx.Row{{Id: c, Crc: 0xffffffff, At: 0x123456789abcdef0}, {Id: b, Crc: 0, At: 0x7fffffff}, {Id: a, Crc: 0xa1b2c3d4, At: 1<<64 - 1}}
	pack := api.Id(bytes.Repeat([]byte{0xcc}, 32))
	p := mustBuild(t, rows, pack)
	wanted := sealed(slices.Concat(
		[]byte("\xfftOc\x00\x00\x00\x02"),
		bytes.Repeat([]byte{0, 0, 0, 2}, 254), []byte{0, 0, 0, 3, 0, 0, 0, 3},
		a[:], b[:], c[:],
		[]byte{0xa1, 0xb2, 0xc3, 0xd4}, []byte{0, 0, 0, 0}, []byte{0xff, 0xff, 0xff, 0xff},
		[]byte{0x80, 0, 0, 0}, []byte{0x7f, 0xff, 0xff, 0xff}, []byte{0x80, 0, 0, 1},
		bytes.Repeat([]byte{0xff}, 8), []byte{0x12, 0x34, 0x56, 0x78, 0x9a, 0xbc, 0xde, 0xf0},
		pack[:],
	))
	if !bytes.Equal(p, wanted) {
		t.Errorf("Build of three rows: %x, wanted %x", p, wanted)
	}
}

// P10.1: ids with each first byte, and places at the edges, one at a time and several at once.
func TestBuildEdges(t *testing.T) {
	for b := range 256 {
		wantBuilt(t, "an id with a first byte", []packidx.Row{{Id: api.Id{byte(b), 1}, At: 12}}, api.Id{9})
	}
	wantBuilt(t, "the least id", []packidx.Row{{}}, api.Id{})
	wantBuilt(t, "the greatest id", []packidx.Row{{Id: api.Id(bytes.Repeat([]byte{0xff}, 32)), Crc: 1<<32 - 1, At: top}}, api.Id{})
	var all []packidx.Row
	for i, at := range []uint64{top, 0, long - 1, long, 12, long + 1, 1 << 32, 1<<32 - 1, 5, 1 << 63} {
		row := packidx.Row{Id: api.Id{byte(77 * i)}, At: at, Crc: uint32(i)}
		p := wantBuilt(t, "one row at an edge", []packidx.Row{row}, api.Id{9})
		wanted := 8 + 1024 + 40 + 64
		if at >= long {
			wanted += 8
		}
		if len(p) != wanted {
			t.Errorf("Build of one row at %d: %d bytes, wanted %d", at, len(p), wanted)
		}
		all = append(all, row)
	}
	if p := wantBuilt(t, "rows at all edges", all, api.Id{9}); len(p) != 8+1024+40*10+8*6+64 {
		t.Errorf("Build of rows at all edges: %d bytes", len(p))
	}
}

// P10.1: rows may come in any order, and the bytes are the same.
func TestBuildInAnyOrder(t *testing.T) {
	rows := []packidx.Row{{Id: api.Id{1}, At: long}, {Id: api.Id{1, 1}, At: 3}, {Id: api.Id{1, 2}, At: top}, {Id: api.Id{2}, At: 1 << 32}, {Id: api.Id{2, 31: 1}, At: 12}}
	wanted := wantBuilt(t, "rows by ids", rows, api.Id{4})
	count := 0
	var each func(n int)
	each = func(n int) {
		if n == 0 {
			count++
			if p := mustBuild(t, rows, api.Id{4}); !bytes.Equal(p, wanted) {
				t.Fatalf("Build of %v: other bytes than by ids", rows)
			}
			return
		}
		for i := range n {
			rows[i], rows[n-1] = rows[n-1], rows[i]
			each(n - 1)
			rows[i], rows[n-1] = rows[n-1], rows[i]
		}
	}
	each(len(rows))
	if count != 120 {
		t.Errorf("%d orders", count)
	}
}

// P10.1: two rows with one id, whatever else they have; ids that differ in one byte alone are two.
func TestBuildTwice(t *testing.T) {
	wantNoBuild(t, "two rows of zeros", []packidx.Row{{}, {}}, api.ErrExists)
	wantNoBuild(t, "two rows with one id", []packidx.Row{{Id: api.Id{1}, At: 1, Crc: 1}, {Id: api.Id{1}, At: 2, Crc: 2}}, api.ErrExists)
	rows := manyRows(30)
	for i := range rows {
		for j := range rows {
			if i == j {
				continue
			}
			twice := slices.Clone(rows)
			twice[i].Id = twice[j].Id
			wantNoBuild(t, "rows of which two have one id", twice, api.ErrExists)
		}
	}
	for i := range 32 {
		id := api.Id{}
		id[i] = 1
		wantBuilt(t, "ids that differ in one byte", []packidx.Row{{Id: id}, {}}, api.Id{})
	}
}

// P10.1: MaxObjects rows are built, one more isn't; too many rows are told ahead of an id that is twice there.
func TestBuildMost(t *testing.T) {
	rows := manyRows(4097)
	wantBuilt(t, "MaxObjects rows", rows[:4096], api.Id{1})
	wantNoBuild(t, "a row more than MaxObjects", rows, api.ErrLong)
	wantNoBuild(t, "many more rows", manyRows(9000), api.ErrLong)
	both := slices.Clone(rows)
	both[4096].Id = both[17].Id
	wantNoBuild(t, "a row too many, which is twice there", both, api.ErrLong)
	both[1].Id = both[0].Id
	wantNoBuild(t, "a row too many, and one twice there", both, api.ErrLong)
	wantNoBuild(t, "MaxObjects rows with one twice there", both[:4096], api.ErrExists)
	for i := range rows {
		rows[i].At += long
	}
	if p := wantBuilt(t, "MaxObjects rows at long places", rows[:4096], api.Id{1}); len(p) != 8+1024+48*4096+64 {
		t.Errorf("Build of MaxObjects rows at long places: %d bytes", len(p))
	}
}

// P10.1, P10.2: rows by chance, against the plain model; what is built is parsed.
func TestBuildByChance(t *testing.T) {
	r := rand.New(rand.NewSource(10))
	for n := range 300 {
		rows, pack := rowsOf(r, n%60), api.Id{byte(n), 31: byte(r.Intn(256))}
		p := wantBuilt(t, "rows by chance", rows, pack)
		wantParsed(t, "rows by chance", p, byId(rows), pack)
		if len(rows) > 1 {
			rows[r.Intn(len(rows))].Id = rows[r.Intn(len(rows))].Id
			wantBuilt(t, "rows of which two may have one id", rows, pack)
		}
	}
}

// The rule 'Memory', P2: neither rows nor their spare room are changed, kept or answered; the same again is the same.
func TestBuildMemory(t *testing.T) {
	r := rand.New(rand.NewSource(11))
	for n := range 40 {
		room := rowsOf(r, n+5)
		before := slices.Clone(room)
		rows := room[:n]
		p := mustBuild(t, rows, api.Id{3})
		if !slices.Equal(room, before) {
			t.Fatalf("Build changes its rows, or their spare room")
		}
		was := bytes.Clone(p)
		if q := mustBuild(t, slices.Clip(slices.Clone(rows)), api.Id{3}); !bytes.Equal(q, was) {
			t.Fatalf("Build asks for spare room")
		}
		q := mustBuild(t, rows, api.Id{3})
		scratch(q)
		if !bytes.Equal(p, was) || !slices.Equal(room, before) {
			t.Fatalf("two answers of Build share memory")
		}
		scratchRows(room)
		if !bytes.Equal(p, was) || !bytes.Equal(mustBuild(t, before[:n], api.Id{3}), was) {
			t.Fatalf("Build keeps its rows")
		}
	}
}
