package packidx_test

import (
	"bytes"
	"math/rand"
	"testing"

	"codicil/api"
	"codicil/packidx"
)

// wantFound fails unless Find answers that row.
func wantFound(t *testing.T, p []byte, row packidx.Row) {
	t.Helper()
	if got, e := packidx.Find(p, row.Id); got != row || e != api.OK {
		t.Errorf("Find of %x: %v, error %d, wanted %v", row.Id, got, e, row)
	}
}

// wantNone fails unless Find answers that there is no such id, and nothing beside it.
func wantNone(t *testing.T, p []byte, id api.Id) {
	t.Helper()
	if got, e := packidx.Find(p, id); got != (packidx.Row{}) || e != api.ErrNone {
		t.Errorf("Find of %x, which isn't there: %v, error %d", id, got, e)
	}
}

// next answers the id behind an id, or ahead of it (step 255), as numbers of 32 bytes.
func next(id api.Id, step byte) api.Id {
	for i := 31; i >= 0; i-- {
		id[i] += step
		if step == 1 && id[i] != 0 || step == 255 && id[i] != 255 {
			return id
		}
	}
	return id
}

// P10.1: each id that is there, and those just ahead of it and behind it.
func TestFind(t *testing.T) {
	for _, n := range []int{1, 2, 3, 6} {
		rows := some()[:n]
		p := mustBuild(t, rows, api.Id{6})
		there := map[api.Id]bool{}
		for _, row := range rows {
			there[row.Id] = true
		}
		for _, row := range rows {
			wantFound(t, p, row)
			for _, id := range []api.Id{next(row.Id, 1), next(row.Id, 255)} {
				if !there[id] {
					wantNone(t, p, id)
				}
			}
		}
		wantNone(t, p, api.Id{})
		wantNone(t, p, api.Id{4})
		wantNone(t, p, api.Id(bytes.Repeat([]byte{0xff}, 32)))
	}
}

// P10.1: the least id and the greatest one are ids as others are.
func TestFindAtTheEnds(t *testing.T) {
	least, greatest := packidx.Row{At: 5, Crc: 1}, packidx.Row{Id: api.Id(bytes.Repeat([]byte{0xff}, 32)), At: top, Crc: 2}
	p := mustBuild(t, []packidx.Row{greatest, least}, api.Id{6})
	wantFound(t, p, least)
	wantFound(t, p, greatest)
	wantNone(t, p, api.Id{31: 1})
	wantNone(t, p, next(greatest.Id, 255))
}

// P10.1: of each first byte there may be an id or none.
func TestFindEachFirstByte(t *testing.T) {
	var rows []packidx.Row
	for b := 0; b < 256; b += 2 {
		rows = append(rows, packidx.Row{Id: api.Id{byte(b)}, At: uint64(b) << 24, Crc: uint32(b)})
	}
	p := mustBuild(t, rows, api.Id{6})
	for _, row := range rows {
		wantFound(t, p, row)
		wantNone(t, p, api.Id{row.Id[0] + 1})
		wantNone(t, p, api.Id{row.Id[0], 1})
	}
}

// P10.1: an index without rows has none, and the zero id isn't there by itself.
func TestFindInNoRows(t *testing.T) {
	p := mustBuild(t, nil, api.Id{6})
	for _, id := range []api.Id{{}, {1}, {6}, api.Id(bytes.Repeat([]byte{0xff}, 32))} {
		wantNone(t, p, id)
	}
}

// P10.1: all of MaxObjects rows are found.
func TestFindInMost(t *testing.T) {
	rows := manyRows(4096)
	p := mustBuild(t, rows, api.Id{6})
	for i := 0; i < len(rows); i += 173 {
		wantFound(t, p, rows[i])
		wantNone(t, p, next(rows[i].Id, 1))
	}
	wantFound(t, p, rows[4095])
}

// P10.1: Parse's error is told, even if the id stands in a part that is whole.
func TestFindInWhatParseRefuses(t *testing.T) {
	id := some()[0].Id
	for _, fault := range faults() {
		x := lay(some(), api.Id{6})
		fault.make(&x)
		p := x.bytes()
		if fault.error == api.ErrSum {
			p[len(p)-1] ^= 1
		}
		if row, e := packidx.Find(p, id); row != (packidx.Row{}) || e != fault.error {
			t.Errorf("Find in %s: %v, error %d, wanted error %d alone", fault.what, row, e, fault.error)
		}
	}
	if row, e := packidx.Find(nil, api.Id{}); row != (packidx.Row{}) || e != api.ErrShort {
		t.Errorf("Find in nil: %v, error %d", row, e)
	}
}

// P10.1, the rule 'Memory': rows by chance as the plain model tells, and the bytes and their spare room as they were.
func TestFindByChance(t *testing.T) {
	r := rand.New(rand.NewSource(14))
	found, none := 0, 0
	for n := range 200 {
		rows := rowsOf(r, n%25)
		p := roomy(mustBuild(t, rows, api.Id{6}))
		was := bytes.Clone(p)
		var ids []api.Id
		for _, row := range rows {
			ids = append(ids, row.Id)
		}
		ids = append(ids, idsOf(r, 10)...)
		for _, id := range ids {
			wanted, we := plainFind(p, id)
			for range 2 {
				if row, e := packidx.Find(p, id); row != wanted || e != we {
					t.Fatalf("Find of %x: %v, error %d, wanted %v, error %d", id, row, e, wanted, we)
				}
			}
			if we == api.OK {
				found++
			} else {
				none++
			}
		}
		wantRoomy(t, "Find", p, was)
	}
	if found < 1000 || none < 1000 {
		t.Errorf("%d found, %d not", found, none)
	}
}
