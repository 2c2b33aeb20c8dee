package pack_test

import (
	"bytes"
	"encoding/hex"
	"math"
	"math/rand"
	"testing"

	"codicil/api"
	"codicil/pack"
)

// eachKind answers items of each kind.
func eachKind() []pack.Item {
	return []pack.Item{
		object(1, "a commit"), object(2, ""), object(3, "abc"), object(4, "a tag, which is somewhat longer than others"),
		onSpan(2, insert(3, "abcxy")), onId(blobId("abc"), insert(3, "xyz")), onSpan(4, insert(5, "")), onSpan(0, nil), onId(api.Id{}, nil), onId(blobId("none"), []byte("no delta")),
	}
}

// itemsByChance answers items by chance, that may be written.
func itemsByChance(r *rand.Rand, n int) []pack.Item {
	var items []pack.Item
	for place := range r.Intn(n + 1) {
		item := pack.Item{Kind: []int{1, 2, 3, 4, 6, 7}[r.Intn(6)], Data: noise(r.Int63(), r.Intn(1+r.Intn(500)), 1+r.Intn(256)), Back: r.Intn(9) - 4, Base: blobId(string(rune('a' + r.Intn(26))))}
		if item.Kind == 6 && place == 0 {
			item.Kind = 3
		}
		if item.Kind == 6 {
			item.Back = r.Intn(place)
		}
		items = append(items, item)
	}
	return items
}

// P9.1: the chapter's first example.
func TestWriteNone(t *testing.T) {
	for way := range 3 {
		for _, items := range [][]pack.Item{nil, {}} {
			p := mustWrite(t, items, way)
			if len(p) != 44 || hex.EncodeToString(p[:12]) != "5041434b0000000200000000" || !bytes.Equal(p, sealed(begun(0))) {
				t.Errorf("Write(none, %d): %x", way, p)
			}
			if l, e := pack.Pieces(p); len(l) != 0 || e != api.OK {
				t.Errorf("Pieces of none: %d items, error %d", len(l), e)
			}
			wantRead(t, "none", p)
		}
	}
}

// P9.1: the bytes of one item of each kind, in digits.
func TestWriteBytes(t *testing.T) {
	const abc = "7801010300fcff616263024d0127"
	for _, x := range []struct {
		items  []pack.Item
		wanted string
	}{
		{[]pack.Item{object(1, "abc")}, "13" + abc},
		{[]pack.Item{object(2, "abc")}, "23" + abc},
		{[]pack.Item{object(3, "abc")}, "33" + abc},
		{[]pack.Item{object(4, "abc")}, "43" + abc},
		{[]pack.Item{onId(api.Id{1, 2, 31: 3}, []byte("abc"))}, "73" + "0102" + "0000000000000000000000000000000000000000000000000000000000" + "03" + abc},
		{[]pack.Item{object(3, "abc"), onSpan(0, []byte("abc"))}, "33" + abc + "63" + "0f" + abc},
		{[]pack.Item{object(3, "abc"), object(3, "abc"), onSpan(0, []byte("abc")), onSpan(2, []byte("abc"))}, "33" + abc + "33" + abc + "63" + "1e" + abc + "63" + "10" + abc},
		{[]pack.Item{object(3, "")}, "30" + "780101" + "0000ffff" + "00000001"},
	} {
		p := mustWrite(t, x.items, 0)
		if got := hex.EncodeToString(p[12 : len(p)-32]); got != x.wanted || !bytes.Equal(p, sealed(begun(len(x.items)), p[12:len(p)-32])) {
			t.Errorf("Write of %d items: %s, wanted %s", len(x.items), got, x.wanted)
		}
	}
}

// P9.1: the bytes are those of the plain model, in each way.
func TestWritePlain(t *testing.T) {
	r := rand.New(rand.NewSource(1))
	lists := [][]pack.Item{eachKind()}
	for range 200 {
		lists = append(lists, itemsByChance(r, 20))
	}
	// Heads of one, two, three and four bytes, and spans of one, two and three.
	var sizes []pack.Item
	for i, n := range []int{0, 1, 15, 16, 17, 127, 128, 2047, 2048, 2049, 20000, 262143, 262144} {
		sizes = append(sizes, pack.Item{Kind: 3, Data: make([]byte, n)}, onSpan(i, make([]byte, n)), onSpan(2*i, nil))
	}
	lists = append(lists, sizes)
	for _, items := range lists {
		for way := range 3 {
			if p := mustWrite(t, items, way); !bytes.Equal(p, plainWrite(items, way)) {
				t.Fatalf("Write of %d items, way %d, answers other bytes than the plain model", len(items), way)
			}
		}
	}
}

// P9.1: ways outside 0 .. 2.
func TestWriteWay(t *testing.T) {
	for _, way := range []int{-1, 3, 4, -3, 256, 1 << 32, math.MinInt, math.MaxInt} {
		wantNoWrite(t, "none", nil, way, api.ErrArg)
		wantNoWrite(t, "each kind", eachKind(), way, api.ErrArg)
		wantNoWrite(t, "a kind that is none", []pack.Item{{Kind: 5}}, way, api.ErrArg)
		wantNoWrite(t, "long data", []pack.Item{{Kind: 3, Data: make([]byte, api.MaxData+1)}}, way, api.ErrArg)
	}
}

// P9.1: kinds that are none, alone and among others.
func TestWriteKinds(t *testing.T) {
	for _, kind := range []int{0, 5, 8, 9, -1, -2, 16 + 3, 256 + 3, 1<<32 + 3, 1<<32 + 6, math.MinInt, math.MaxInt} {
		for way := range 3 {
			wantNoWrite(t, "a kind that is none", []pack.Item{{Kind: kind}}, way, api.ErrType)
			wantNoWrite(t, "a kind that is none", []pack.Item{{Kind: kind, Back: -7}}, way, api.ErrType)
		}
		for place := range eachKind() {
			items := eachKind()
			items[place].Kind = kind
			wantNoWrite(t, "a kind that is none among others", items, 0, api.ErrType)
		}
	}
}

// P9.1: Back at its edges, which counts only for the kind 6.
func TestWriteBack(t *testing.T) {
	items := []pack.Item{object(3, "a"), object(3, "b"), object(3, "c")}
	for _, back := range []int{-1, -2, 3, 4, 5, 1 << 32, math.MinInt, math.MaxInt} {
		wantNoWrite(t, "Back outside", append(items[:3:3], onSpan(back, nil)), 0, api.ErrArg)
		wantNoWrite(t, "Back outside, ahead of others", append(items[:3:3], onSpan(back, nil), object(3, ""), object(3, "")), 0, api.ErrArg)
		for _, kind := range []int{1, 2, 3, 4, 7} {
			p := mustWrite(t, append(items[:3:3], pack.Item{Kind: kind, Back: back}), 0)
			if !bytes.Equal(p, mustWrite(t, append(items[:3:3], pack.Item{Kind: kind}), 0)) {
				t.Errorf("Back counts for the kind %d", kind)
			}
		}
	}
	for back := range 3 {
		p := mustWrite(t, append(items[:3:3], onSpan(back, insert(1, "x"))), 0)
		l, e := pack.Pieces(p)
		if e != api.OK || l[3].BaseAt != l[back].At {
			t.Errorf("Back %d: error %d", back, e)
		}
	}
	for _, back := range []int{-1, 0, 1} {
		wantNoWrite(t, "a first item on a base", []pack.Item{onSpan(back, nil)}, 0, api.ErrArg)
	}
}

// P9.1: Base counts only for the kind 7.
func TestWriteBase(t *testing.T) {
	for _, kind := range []int{1, 2, 3, 4, 6} {
		plain := mustWrite(t, []pack.Item{object(3, "a"), {Kind: kind, Data: []byte("b")}}, 0)
		if !bytes.Equal(plain, mustWrite(t, []pack.Item{object(3, "a"), {Kind: kind, Data: []byte("b"), Base: blobId("a")}}, 0)) {
			t.Errorf("Base counts for the kind %d", kind)
		}
	}
}

// P9.1: data with no byte, with MaxData, and with one more.
func TestWriteData(t *testing.T) {
	most, beyond := make([]byte, api.MaxData), make([]byte, api.MaxData+1)
	for _, kind := range []int{1, 2, 3, 4, 6, 7} {
		items := []pack.Item{object(3, "a"), {Kind: kind, Data: most}}
		for way := range 3 {
			p := mustWrite(t, items, way)
			if l, e := pack.Pieces(p); e != api.OK || !bytes.Equal(l[1].Data, most) {
				t.Errorf("MaxData bytes of the kind %d: error %d", kind, e)
			}
			wantNoWrite(t, "one byte beyond MaxData", []pack.Item{object(3, "a"), {Kind: kind, Data: beyond}}, way, api.ErrLong)
			wantNoWrite(t, "many bytes beyond MaxData", []pack.Item{object(3, "a"), {Kind: kind, Data: make([]byte, 3*api.MaxData)}, object(3, "b")}, way, api.ErrLong)
		}
		for _, none := range [][]byte{nil, {}} {
			l, e := pack.Pieces(mustWrite(t, []pack.Item{object(3, "a"), {Kind: kind, Data: none}}, 2))
			if e != api.OK || len(l[1].Data) != 0 {
				t.Errorf("no byte of the kind %d: error %d", kind, e)
			}
		}
	}
}

// P9.1: MaxObjects items, and one more.
func TestWriteMany(t *testing.T) {
	items := make([]pack.Item, api.MaxObjects+1)
	for i := range items {
		items[i] = object(1+i%4, string(rune('a'+i%26)))
		if i%5 == 4 {
			items[i] = onSpan(i-1, insert(1, "x"))
		}
	}
	p := mustWrite(t, items[:api.MaxObjects], 0)
	if !bytes.Equal(p, plainWrite(items[:api.MaxObjects], 0)) {
		t.Errorf("MaxObjects items are written otherwise")
	}
	l, e := pack.Read(p)
	if e != api.OK || len(l) != api.MaxObjects {
		t.Errorf("Read of MaxObjects items: %d, error %d", len(l), e)
	}
	wantNoWrite(t, "one item more", items, 0, api.ErrLong)
	wantNoWrite(t, "many more", make([]pack.Item, 3*api.MaxObjects), 0, api.ErrLong)
}

// P9.1: of two errors at one time the least number, wherever they stand.
func TestWriteTwoErrors(t *testing.T) {
	long := pack.Item{Kind: 3, Data: make([]byte, api.MaxData+1)}
	badBack, badKind := onSpan(7, nil), pack.Item{Kind: 5}
	longBack := pack.Item{Kind: 6, Back: -1, Data: long.Data}
	longKind := pack.Item{Kind: 0, Data: long.Data}
	for _, x := range []struct {
		items  []pack.Item
		wanted api.Errno
	}{
		{[]pack.Item{long, badBack}, api.ErrArg}, {[]pack.Item{badBack, long}, api.ErrArg}, {[]pack.Item{badKind, badBack}, api.ErrArg}, {[]pack.Item{badBack, badKind}, api.ErrArg},
		{[]pack.Item{badKind, long}, api.ErrLong}, {[]pack.Item{long, badKind}, api.ErrLong}, {[]pack.Item{longBack}, api.ErrArg}, {[]pack.Item{longKind}, api.ErrLong},
		{[]pack.Item{badKind, long, badBack}, api.ErrArg},
	} {
		wantNoWrite(t, "two errors", x.items, 0, x.wanted)
	}
	many := make([]pack.Item, api.MaxObjects+1)
	wantNoWrite(t, "too many items of no kind", many, 0, api.ErrLong)
	many[api.MaxObjects] = onSpan(-1, nil)
	wantNoWrite(t, "too many items, the last of a wrong Back", many, 0, api.ErrArg)
	many[api.MaxObjects] = onSpan(api.MaxObjects, nil)
	wantNoWrite(t, "too many items, the last on itself", many, 0, api.ErrArg)
	many[api.MaxObjects] = onSpan(api.MaxObjects-1, nil)
	wantNoWrite(t, "too many items, the last of a right Back", many, 0, api.ErrLong)
	wantNoWrite(t, "too many items, and a way that is none", many, 3, api.ErrArg)
}

// P9.3: Pieces of what was written are the items.
func TestPiecesOfWritten(t *testing.T) {
	r := rand.New(rand.NewSource(2))
	lists := [][]pack.Item{eachKind()}
	for range 150 {
		lists = append(lists, itemsByChance(r, 30))
	}
	for _, items := range lists {
		for way := range 3 {
			l, e := pack.Pieces(mustWrite(t, items, way))
			if e != api.OK || len(l) != len(items) {
				t.Fatalf("%d items: %d pieces, error %d", len(items), len(l), e)
			}
			at := 12
			for i, x := range l {
				item := items[i]
				if x.Kind != item.Kind || !bytes.Equal(x.Data, item.Data) || x.At != at {
					t.Fatalf("the item %d is another one", i)
				}
				baseAt, base := 0, api.Id{}
				if x.Kind == 6 {
					baseAt = l[item.Back].At
				}
				if x.Kind == 7 {
					base = item.Base
				}
				if x.BaseAt != baseAt || x.Base != base {
					t.Fatalf("the item %d has the base %d, %x, wanted %d, %x", i, x.BaseAt, x.Base, baseAt, base)
				}
				at = x.End
			}
		}
	}
}

// P9.3: Read of what was written of objects alone are these, in form or not.
func TestReadOfObjects(t *testing.T) {
	r := rand.New(rand.NewSource(3))
	for range 150 {
		var items []pack.Item
		for range r.Intn(30) {
			items = append(items, pack.Item{Kind: 1 + r.Intn(4), Data: noise(r.Int63(), r.Intn(1+r.Intn(500)), 1+r.Intn(256)), Back: -3, Base: blobId("any")})
		}
		for way := range 3 {
			p := mustWrite(t, items, way)
			l, e := pack.Read(p)
			if e != api.OK || len(l) != len(items) {
				t.Fatalf("%d objects: %d, error %d", len(items), len(l), e)
			}
			for i, x := range l {
				if int(x.Object.Kind) != items[i].Kind || !bytes.Equal(x.Object.Data, items[i].Data) || x.Id != idOf(items[i].Kind, items[i].Data) {
					t.Fatalf("the object %d is another one", i)
				}
			}
			wantPlain(t, "objects alone", p)
		}
	}
}

// The rule 'Memory': Write neither changes nor keeps what is handed in, nor reads its spare room; P2: it answers the same again.
func TestWriteMemory(t *testing.T) {
	items := append(eachKind(), pack.Item{Kind: 9}, pack.Item{Kind: 9})[:10]
	for i := range items {
		items[i].Data = roomy(items[i].Data)
	}
	first := mustWrite(t, items, 0)
	wanted := plainWrite(eachKind(), 0)
	second := mustWrite(t, items, 0)
	for i, item := range eachKind() {
		wantRoomy(t, "Write", items[i].Data, item.Data)
		if got := items[i]; got.Kind != item.Kind || got.Back != item.Back || got.Base != item.Base {
			t.Errorf("Write changes the item %d", i)
		}
		scratch(items[i].Data)
	}
	if spare := items[:12]; spare[10].Kind != 9 || spare[11].Kind != 9 {
		t.Errorf("Write changes spare room")
	}
	scratch(second)
	if !bytes.Equal(first, wanted) {
		t.Errorf("Write's answer shares memory, or hangs on spare room")
	}
}
