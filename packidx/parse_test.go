package packidx_test

import (
	"bytes"
	"math/rand"
	"slices"
	"testing"

	"codicil/api"
	"codicil/packidx"
)

// some answers rows by ids: short and long places, and first bytes from 0 to 255.
func some() []packidx.Row {
	return []packidx.Row{
		{Id: api.Id{0, 1}, Crc: 0x11111111, At: 12},
		{Id: api.Id{0, 2}, Crc: 0x22222222, At: 1 << 31},
		{Id: api.Id{5, 9}, Crc: 0x33333333, At: 1<<31 - 1},
		{Id: api.Id{5, 9, 31: 1}, Crc: 0x44444444, At: 1<<64 - 1},
		{Id: api.Id{0x80}, Crc: 0xffffffff, At: 0},
		{Id: api.Id{255, 255}, Crc: 0, At: 1 << 32},
	}
}

// P10.1, P10.2: what is built is parsed, and built again it is as it was.
func TestParseWhatIsBuilt(t *testing.T) {
	most := manyRows(4096)
	for i := range most {
		if i%3 == 0 {
			most[i].At += 1 << 40
		}
	}
	for _, rows := range [][]packidx.Row{nil, some()[:1], some()[1:2], some(), most} {
		p := mustBuild(t, rows, api.Id{6, 31: 7})
		wantParsed(t, "what is built", p, rows, api.Id{6, 31: 7})
		back, pack, _ := packidx.Parse(p)
		if !bytes.Equal(mustBuild(t, back, pack), p) {
			t.Errorf("%d rows: what is parsed and built again is otherwise", len(rows))
		}
		mixed := slices.Clone(rows)
		slices.Reverse(mixed)
		wantParsed(t, "what is built of rows the other way round", mustBuild(t, mixed, api.Id{8}), rows, api.Id{8})
	}
}

// P10.2: a long place below 2^31 is parsed; built again, it is a short one.
func TestParseLongPlacesBelow(t *testing.T) {
	for _, at := range []uint64{0, 12, 1<<31 - 1} {
		rows := some()
		x := lay(rows, api.Id{1})
		x.longs[1] = at
		rows[3].At = at
		p := x.bytes()
		wantParsed(t, "a long place below 2^31", p, rows, api.Id{1})
		if row, e := packidx.Find(p, rows[3].Id); row != rows[3] || e != api.OK {
			t.Errorf("Find at a long place below 2^31: %v, error %d", row, e)
		}
		if q := wantBuilt(t, "a place below 2^31", rows, api.Id{1}); len(q) != len(p)-8 {
			t.Errorf("Build of a place that was a long one below 2^31: %d bytes, wanted %d", len(q), len(p)-8)
		}
	}
}

// P10.1: bytes cut short at each place, with their sum anew and without; nothing is enough without its last byte.
func TestParseCut(t *testing.T) {
	for _, rows := range [][]packidx.Row{nil, some()[:1], some()[1:2], some()} {
		whole := mustBuild(t, rows, api.Id{6})
		for n := range whole {
			p := whole[:n:n]
			wantNoParse(t, "bytes cut short", p, api.ErrShort)
			if n >= 32 {
				wantNoParse(t, "bytes cut short with a sum", anew(p), api.ErrShort)
			}
		}
	}
	wantNoParse(t, "nil", nil, api.ErrShort)
	wantNoParse(t, "nothing", []byte{}, api.ErrShort)
	// Too few bytes for an index of no row are told ahead of all else.
	wantNoParse(t, "1095 bytes 0", make([]byte, 1095), api.ErrShort)
	wantNoParse(t, "1096 bytes 0", make([]byte, 1096), api.ErrForm)
}

// P10.1: bytes too many, at each number up to a long place and a row more.
func TestParseBytesTooMany(t *testing.T) {
	for _, rows := range [][]packidx.Row{nil, some()[:1], some()} {
		whole := mustBuild(t, rows, api.Id{6})
		for n := 1; n <= 50; n++ {
			p := append(bytes.Clone(whole), make([]byte, n)...)
			wantNoParse(t, "bytes too many", p, api.ErrForm)
			wantNoParse(t, "bytes too many with their sum", anew(p), api.ErrForm)
		}
	}
	x := lay(some(), api.Id{6})
	x.longs = append(x.longs, 1<<40)
	wantNoParse(t, "a long place that no row names", x.bytes(), api.ErrForm)
	x.longs = x.longs[:2]
	wantNoParse(t, "a long place too few", x.bytes(), api.ErrShort)
	x.longs = nil
	wantNoParse(t, "no long place", x.bytes(), api.ErrShort)
}

// P10.1: each of the first eight bytes may be no other.
func TestParseHead(t *testing.T) {
	for i := range 8 {
		for b := range 256 {
			x := lay(some(), api.Id{6})
			if x.head[i] == byte(b) {
				continue
			}
			x.head[i] = byte(b)
			wantNoParse(t, "another head", x.bytes(), api.ErrForm)
		}
	}
}

// P10.1: a fan that falls somewhere, be it that what is behind fits or not.
func TestParseFanFalls(t *testing.T) {
	for i := range 255 {
		x := lay(some(), api.Id{6})
		x.fan[i] = x.fan[i+1] + 1
		wantNoParse(t, "a fan that falls", x.bytes(), api.ErrForm)
		x.fan[i] = 1<<32 - 1
		wantNoParse(t, "a fan that falls from the greatest number", x.bytes(), api.ErrForm)
		x.fan[255] = 4097
		wantNoParse(t, "a fan that falls and ends above MaxObjects", x.bytes(), api.ErrForm)
		x.fan[255] = 4096
		wantNoParse(t, "a fan that falls, with too few bytes", x.bytes(), api.ErrForm)
	}
	x := lay(some(), api.Id{6})
	x.fan[255] = 0
	wantNoParse(t, "a fan that falls to 0", x.bytes(), api.ErrForm)
}

// P10.1: the fan's last number may be MaxObjects and not more, whether the rows are there or not.
func TestParseLimit(t *testing.T) {
	x := lay(nil, api.Id{6})
	for _, n := range []uint32{4097, 4098, 1 << 16, 1<<31 - 1, 1 << 31, 1<<32 - 1} {
		x.fan[255] = n
		wantNoParse(t, "a last number above MaxObjects", x.bytes(), api.ErrLimit)
	}
	x.fan[255] = 4096
	wantNoParse(t, "a last number of MaxObjects, without rows", x.bytes(), api.ErrShort)
	rows := manyRows(4097)
	wantNoParse(t, "a row more than MaxObjects", lay(rows, api.Id{6}).bytes(), api.ErrLimit)
	wantParsed(t, "MaxObjects rows", lay(rows[:4096], api.Id{6}).bytes(), rows[:4096], api.Id{6})
}

// P10.1: the fan must be what the ids want, each number of it.
func TestParseOtherFan(t *testing.T) {
	x := lay(some(), api.Id{6})
	good := x.fan
	for i := range 255 {
		for v := range uint32(7) {
			x.fan = good
			if x.fan[i] = v; v == good[i] || !slices.IsSorted(x.fan[:]) {
				continue
			}
			wantNoParse(t, "a fan that isn't what the ids want", x.bytes(), api.ErrForm)
		}
	}
	x.fan = [256]uint32{}
	x.fan[255] = 6
	wantNoParse(t, "a fan with all rows at the last byte", x.bytes(), api.ErrForm)
	for i := range x.fan {
		x.fan[i] = 6
	}
	wantNoParse(t, "a fan with all rows at the first byte", x.bytes(), api.ErrForm)
}

// P10.1: ids must rise strictly.
func TestParseIdsDontRise(t *testing.T) {
	for i := range some() {
		for j := range i {
			x := lay(some(), api.Id{6})
			x.ids[i], x.ids[j] = x.ids[j], x.ids[i]
			wantNoParse(t, "ids in another order", x.bytes(), api.ErrForm)
			x.ids[i] = x.ids[j]
			x.fan = fanOf(x.ids)
			wantNoParse(t, "an id twice there", x.bytes(), api.ErrForm)
		}
	}
	// The fan is the same, so it is the ids alone that tell.
	x := lay([]packidx.Row{{Id: api.Id{4, 1}}, {Id: api.Id{4, 2}}}, api.Id{6})
	x.ids[0], x.ids[1] = x.ids[1], x.ids[0]
	wantNoParse(t, "two ids that fall", x.bytes(), api.ErrForm)
	x.ids[0] = x.ids[1]
	wantNoParse(t, "two ids that are one", x.bytes(), api.ErrForm)
}

// P10.1: long places are named in their order, each once.
func TestParseLongPlacesNamed(t *testing.T) {
	rows := manyRows(5)
	for i := range rows {
		rows[i].At = 1<<40 + uint64(i)
	}
	rows[2].At = 77
	good := []uint32{long, long + 1, 77, long + 2, long + 3}
	count := 0
	for a := range 6 {
		for b := range 6 {
			for c := range 6 {
				for d := range 6 {
					x := lay(rows, api.Id{6})
					x.shorts = []uint32{uint32(long + a), uint32(long + b), 77, uint32(long + c), uint32(long + d)}
					if slices.Equal(x.shorts, good) {
						count++
						wantParsed(t, "long places in their order", x.bytes(), rows, api.Id{6})
						continue
					}
					wantNoParse(t, "long places that are named otherwise", x.bytes(), api.ErrForm)
				}
			}
		}
	}
	if count != 1 {
		t.Errorf("%d good orders", count)
	}
	for i, wanted := range good {
		for _, far := range []uint32{long + 4, long + 256, long + 1<<30, 1<<32 - 1} {
			x := lay(rows, api.Id{6})
			x.shorts[i] = far
			if wanted < long {
				x.longs = append(x.longs, 9)
			}
			wantNoParse(t, "a long place beyond the last", x.bytes(), api.ErrForm)
		}
	}
}

// P10.1: a turned bit of any byte is told, with the sum as it was and with the sum anew, as the plain model does.
func TestParseTurned(t *testing.T) {
	whole := mustBuild(t, some(), api.Id{6})
	met := map[api.Errno]int{}
	for i := range whole {
		for bit := range 8 {
			p := bytes.Clone(whole)
			p[i] ^= 1 << bit
			e := wantPlain(t, "a turned bit", p)
			met[e]++
			if i >= len(whole)-64 && e != api.ErrSum {
				t.Errorf("the byte %d turned: error %d", i, e)
			}
			met[wantPlain(t, "a turned bit with the sum anew", anew(p))]++
		}
	}
	if met[api.OK] == 0 || met[api.ErrForm] == 0 || met[api.ErrShort] == 0 || met[api.ErrSum] == 0 || met[api.ErrLimit] == 0 || len(met) != 5 {
		t.Errorf("met %v", met)
	}
}

// fault is something wrong in an index, and the error it has.
type fault struct {
	what  string
	make  func(x *laid)
	error api.Errno
}

// faults answers what may be wrong, in the order in which Parse asks.
func faults() []fault {
	return []fault{
		{"another head", func(x *laid) { x.head[7] = 3 }, api.ErrForm},
		{"a fan that falls", func(x *laid) { x.fan[100] = 9000 }, api.ErrForm},
		{"a last number above MaxObjects", func(x *laid) { x.fan[255] = 5000 }, api.ErrLimit},
		{"too few bytes for the rows", func(x *laid) { x.fan[255] = 50 }, api.ErrShort},
		{"too few for the long places", func(x *laid) {
			x.shorts = []uint32{long, long + 1, long + 2, long + 3, long + 4, long + 5}
			x.longs = nil
		}, api.ErrShort},
		{"bytes too many", func(x *laid) { x.longs = append(x.longs, 1, 2, 3, 4, 5, 6, 7) }, api.ErrForm},
		{"another sum", func(x *laid) {}, api.ErrSum},
		{"ids that fall", func(x *laid) { x.ids[0], x.ids[1] = x.ids[1], x.ids[0] }, api.ErrForm},
		{"another fan", func(x *laid) { x.fan[4] = 3 }, api.ErrForm},
		{"long places out of order", func(x *laid) { x.shorts[1], x.shorts[3] = x.shorts[3], x.shorts[1] }, api.ErrForm},
	}
}

// P10.1: of two errors at one time that one is told for which Parse asks first.
func TestParseTwoErrors(t *testing.T) {
	const sum = 6
	all := faults()
	for i, a := range all {
		for j, b := range all {
			if i == 4 && j == 5 || i == 5 && j == 4 {
				continue // too few and too many bytes can't be at one time
			}
			x := lay(some(), api.Id{6})
			all[max(i, j)].make(&x)
			if i != j {
				all[min(i, j)].make(&x)
			}
			p := x.bytes()
			if i == sum || j == sum {
				p[len(p)-1] ^= 1
			}
			wantNoParse(t, a.what+" and "+b.what, p, all[min(i, j)].error)
			wantPlain(t, a.what+" and "+b.what, p)
		}
	}
	// Fewer bytes than an index has at least are told ahead of another head.
	wantNoParse(t, "other bytes, and too few", bytes.Repeat([]byte{0x77}, 1095), api.ErrShort)
	wantNoParse(t, "other bytes", bytes.Repeat([]byte{0x77}, 1096), api.ErrForm)
}

// spoil changes some of the parts by chance.
func spoil(r *rand.Rand, x *laid) {
	n := len(x.ids)
	for range r.Intn(3) {
		switch r.Intn(8) {
		case 0:
			x.fan[r.Intn(256)] = uint32(r.Intn(n + 2))
		case 1:
			x.fan[255] = []uint32{uint32(n + 1), 4096, 4097, 1 << 31}[r.Intn(4)]
		case 2:
			x.longs = append(x.longs, r.Uint64())
		case 3:
			x.longs = x.longs[:r.Intn(len(x.longs)+1)]
		case 4:
			if n > 0 {
				x.shorts[r.Intn(n)] = uint32(long*r.Intn(2) + r.Intn(n))
			}
		case 5:
			if n > 1 {
				i, j := r.Intn(n), r.Intn(n)
				x.ids[i], x.ids[j] = x.ids[j], x.ids[i]
			}
		case 6:
			if n > 1 {
				x.ids[r.Intn(n)] = x.ids[r.Intn(n)]
				x.fan = fanOf(x.ids)
			}
		case 7:
			x.head[r.Intn(8)] ^= byte(r.Intn(4) / 3)
		}
	}
}

// P10.1, P1: indices with faults by chance, as the plain model tells; what is parsed and built again is as it was.
func TestParseByChance(t *testing.T) {
	r := rand.New(rand.NewSource(12))
	met := map[api.Errno]int{}
	for range 6000 {
		x := lay(rowsOf(r, r.Intn(12)), api.Id{byte(r.Intn(256))})
		spoil(r, &x)
		p := x.bytes()
		if r.Intn(8) == 0 {
			p[r.Intn(len(p))] ^= 1 << r.Intn(8)
		}
		e := wantPlain(t, "an index with faults", p)
		met[e]++
		if e != api.OK {
			continue
		}
		rows, pack, _ := packidx.Parse(p)
		if q := mustBuild(t, rows, pack); !slices.ContainsFunc(x.longs, func(at uint64) bool { return at < long }) && !bytes.Equal(p, q) {
			t.Fatalf("what is parsed and built again is otherwise: %x, was %x", q, p)
		}
	}
	if len(met) != 5 || met[api.OK] < 100 || met[api.ErrForm] < 100 || met[api.ErrShort] < 100 || met[api.ErrSum] < 50 || met[api.ErrLimit] < 100 {
		t.Errorf("met %v", met)
	}
}

// The rule 'Memory', P2: neither the bytes nor their spare room are changed, kept, asked or answered.
func TestParseMemory(t *testing.T) {
	r := rand.New(rand.NewSource(13))
	for n := range 30 {
		wanted := byId(rowsOf(r, n))
		p := roomy(mustBuild(t, wanted, api.Id{6}))
		was := bytes.Clone(p)
		rows, _, _ := packidx.Parse(p)
		wantRoomy(t, "Parse", p, was)
		other, _, _ := packidx.Parse(p)
		scratchRows(other)
		if !slices.Equal(rows, wanted) {
			t.Fatalf("two answers of Parse share memory")
		}
		wantRoomy(t, "what Parse answers", p, was)
		wantParsed(t, "the same again", p, wanted, api.Id{6})
		scratch(p)
		if !slices.Equal(rows, wanted) {
			t.Fatalf("Parse keeps its bytes")
		}
		wantParsed(t, "the same bytes elsewhere", was, wanted, api.Id{6})
		// A whole index is there, but the last bytes are spare room.
		wantNoParse(t, "bytes whose end is spare room", was[:len(was)-1], api.ErrShort)
	}
}
