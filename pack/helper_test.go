package pack_test

import (
	"bytes"
	stdzlib "compress/zlib"
	"crypto/sha256"
	"encoding/binary"
	"hash/crc32"
	"math/rand"
	"strconv"
	"testing"

	"codicil/api"
	"codicil/delta"
	"codicil/num"
	"codicil/pack"
	"codicil/zlib"
)

// join puts bytes behind one another.
func join(parts ...[]byte) []byte { return bytes.Join(parts, nil) }

// noise answers n bytes by chance, of so many kinds.
func noise(seed int64, n, kinds int) []byte {
	r := rand.New(rand.NewSource(seed))
	p := make([]byte, n)
	for i := range p {
		p[i] = byte(r.Intn(kinds))
	}
	return p
}

// word answers the word of a kind.
func word(kind int) string { return []string{"", "commit", "tree", "blob", "tag"}[kind] }

// idOf answers the id of an object.
func idOf(kind int, data []byte) api.Id {
	return sha256.Sum256(join([]byte(word(kind)+" "+strconv.Itoa(len(data))+"\x00"), data))
}

// head answers a kind and a size as a head.
func head(kind int, size uint64) []byte {
	first := byte(kind*16) + byte(size%16)
	if size < 16 {
		return []byte{first}
	}
	out := []byte{first + 128}
	for size /= 16; size >= 128; size /= 128 {
		out = append(out, byte(size%128)+128)
	}
	return append(out, byte(size))
}

// span answers a distance as a span.
func span(v uint64) []byte {
	out := []byte{byte(v % 128)}
	for v /= 128; v > 0; v = (v - 1) / 128 {
		out = append([]byte{byte((v-1)%128) + 128}, out...)
	}
	return out
}

// wrap answers data as the project wraps it.
func wrap(data []byte, way int) []byte {
	p, e := zlib.Wrap(data, way)
	if e != api.OK {
		panic("Wrap: error " + strconv.Itoa(int(e)))
	}
	return p
}

// squeezed answers data as the library wraps it, mostly with codes of its own.
func squeezed(data []byte) []byte {
	var b bytes.Buffer
	w := stdzlib.NewWriter(&b)
	w.Write(data)
	w.Close()
	return b.Bytes()
}

// begun answers what stands ahead of so many items.
func begun(count int) []byte {
	return binary.BigEndian.AppendUint32([]byte("PACK\x00\x00\x00\x02"), uint32(count))
}

// sealed answers bytes and their sum.
func sealed(parts ...[]byte) []byte {
	p := join(parts...)
	sum := sha256.Sum256(p)
	return append(p, sum[:]...)
}

// packed answers a pack of items that are bytes already.
func packed(items ...[]byte) []byte { return sealed(begun(len(items)), join(items...)) }

// blob answers the bytes of a blob as an item.
func blob(text string) []byte { return join(head(3, uint64(len(text))), wrap([]byte(text), 0)) }

// plainWrite answers by the chapter's words the bytes of a pack of items that have no error.
func plainWrite(items []pack.Item, way int) []byte {
	out := begun(len(items))
	var begins []int
	for _, item := range items {
		begins = append(begins, len(out))
		between := []byte{}
		if item.Kind == 6 {
			between = span(uint64(len(out) - begins[item.Back]))
		}
		if item.Kind == 7 {
			between = item.Base[:]
		}
		out = join(out, head(item.Kind, uint64(len(item.Data))), between, wrap(item.Data, way))
	}
	return sealed(out)
}

// plainPieces answers by the chapter's words the items of a pack.
func plainPieces(p []byte) ([]pack.Piece, api.Errno) {
	if len(p) < 44 {
		return nil, api.ErrShort
	}
	if !bytes.HasPrefix(p, []byte{0x50, 0x41, 0x43, 0x4b, 0, 0, 0, 2}) {
		return nil, api.ErrForm
	}
	count := binary.BigEndian.Uint32(p[8:])
	if count > 4096 {
		return nil, api.ErrLimit
	}
	body, sum := p[:len(p)-32], p[len(p)-32:]
	begins := map[int]bool{}
	var l []pack.Piece
	at := 12
	for range count {
		x, e := plainPiece(body, at, begins)
		if e != api.OK {
			return nil, e
		}
		begins[at] = true
		l = append(l, x)
		at = x.End
	}
	if at != len(body) {
		return nil, api.ErrForm
	}
	if wanted := sha256.Sum256(body); !bytes.Equal(wanted[:], sum) {
		return nil, api.ErrSum
	}
	return l, api.OK
}

// plainPiece answers by the chapter's words the item that begins at at.
func plainPiece(body []byte, at int, begins map[int]bool) (pack.Piece, api.Errno) {
	x := pack.Piece{At: at}
	kind, size, behind, e := num.Head(body, at)
	switch {
	case e != api.OK:
		return x, e
	case kind == 0 || kind == 5:
		return x, api.ErrType
	case size > 1048576:
		return x, api.ErrLimit
	}
	x.Kind = kind
	if kind == 6 {
		distance, end, e := num.Span(body, behind)
		if e != api.OK {
			return x, e
		}
		if distance == 0 || distance > uint64(at) || !begins[at-int(distance)] {
			return x, api.ErrForm
		}
		x.BaseAt, behind = at-int(distance), end
	}
	if kind == 7 {
		if behind+32 > len(body) {
			return x, api.ErrShort
		}
		copy(x.Base[:], body[behind:])
		behind += 32
	}
	data, n, e := zlib.Unwrap(body[behind:], int(size))
	if e != api.OK {
		return x, e
	}
	if len(data) != int(size) {
		return x, api.ErrForm
	}
	x.Data, x.End = data, behind+n
	x.Crc = crc32.ChecksumIEEE(body[at:x.End])
	return x, api.OK
}

// plainRead answers by the chapter's words the objects of a pack, told in rounds.
func plainRead(p []byte) ([]pack.Found, api.Errno) {
	l, e := plainPieces(p)
	if e != api.OK {
		return nil, e
	}
	found, told, depth, last := make([]pack.Found, len(l)), make([]bool, len(l)), make([]int, len(l)), make([]api.Errno, len(l))
	for more := true; more; {
		more = false
		for i, x := range l {
			if told[i] {
				continue
			}
			kind, data, d := x.Kind, x.Data, 0
			if x.Kind > 4 {
				base := -1
				for j := range l {
					if told[j] && base < 0 && (x.Kind == 6 && l[j].At == x.BaseAt || x.Kind == 7 && found[j].Id == x.Base) {
						base = j
					}
				}
				if base < 0 {
					last[i] = api.ErrNone
					continue
				}
				if depth[base] == 50 {
					last[i] = api.ErrLimit
					continue
				}
				if data, last[i] = delta.Apply(found[base].Object.Data, x.Data, 1048576); last[i] != api.OK {
					continue
				}
				kind, d = int(found[base].Object.Kind), depth[base]+1
			}
			found[i] = pack.Found{Object: api.Object{Kind: api.Kind(kind), Data: data}, Id: idOf(kind, data), At: x.At, Crc: x.Crc}
			told[i], depth[i], more = true, d, true
		}
	}
	for i := range l {
		if !told[i] {
			return nil, last[i]
		}
	}
	return found, api.OK
}

// samePieces answers whether two lists are the same.
func samePieces(a, b []pack.Piece) bool {
	for i := range min(len(a), len(b)) {
		x, y := a[i], b[i]
		if x.Kind != y.Kind || !bytes.Equal(x.Data, y.Data) || x.At != y.At || x.End != y.End || x.BaseAt != y.BaseAt || x.Base != y.Base || x.Crc != y.Crc {
			return false
		}
	}
	return len(a) == len(b)
}

// sameFound answers whether two lists are the same.
func sameFound(a, b []pack.Found) bool {
	for i := range min(len(a), len(b)) {
		x, y := a[i], b[i]
		if x.Object.Kind != y.Object.Kind || !bytes.Equal(x.Object.Data, y.Object.Data) || x.Id != y.Id || x.At != y.At || x.Crc != y.Crc {
			return false
		}
	}
	return len(a) == len(b)
}

// mustWrite answers what Write does, and fails if there is an error.
func mustWrite(t *testing.T, items []pack.Item, way int) []byte {
	t.Helper()
	p, e := pack.Write(items, way)
	if e != api.OK {
		t.Fatalf("Write of %d items, way %d: error %d", len(items), way, e)
	}
	return p
}

// wantNoWrite fails unless Write answers that error, and nothing beside it.
func wantNoWrite(t *testing.T, what string, items []pack.Item, way int, wanted api.Errno) {
	t.Helper()
	if p, e := pack.Write(items, way); len(p) != 0 || e != wanted {
		t.Errorf("Write of %s: %d bytes, error %d, wanted error %d alone", what, len(p), e, wanted)
	}
}

// wantNoPieces fails unless Pieces answers that error, and nothing beside it, and Read does so too.
func wantNoPieces(t *testing.T, what string, p []byte, wanted api.Errno) {
	t.Helper()
	if l, e := pack.Pieces(p); len(l) != 0 || e != wanted {
		t.Errorf("Pieces of %s: %d items, error %d, wanted error %d alone", what, len(l), e, wanted)
	}
	wantNoRead(t, what, p, wanted)
}

// wantNoRead fails unless Read answers that error, and nothing beside it.
func wantNoRead(t *testing.T, what string, p []byte, wanted api.Errno) {
	t.Helper()
	if l, e := pack.Read(p); len(l) != 0 || e != wanted {
		t.Errorf("Read of %s: %d objects, error %d, wanted error %d alone", what, len(l), e, wanted)
	}
}

// wantPlain fails unless Pieces and Read answer what the plain models do; it answers Read's error.
func wantPlain(t *testing.T, what string, p []byte) api.Errno {
	t.Helper()
	pieces, e := plainPieces(p)
	if got, g := pack.Pieces(p); g != e || !samePieces(got, pieces) {
		t.Fatalf("Pieces of %s: %d items, error %d, wanted %d items, error %d", what, len(got), g, len(pieces), e)
	}
	found, e := plainRead(p)
	if got, g := pack.Read(p); g != e || !sameFound(got, found) {
		t.Fatalf("Read of %s: %d objects, error %d, wanted %d objects, error %d", what, len(got), g, len(found), e)
	}
	return e
}

// wantRead fails unless Read answers objects with these texts, and as the plain model does.
func wantRead(t *testing.T, what string, p []byte, texts ...string) {
	t.Helper()
	if e := wantPlain(t, what, p); e != api.OK {
		t.Fatalf("Read of %s: error %d", what, e)
	}
	l, _ := pack.Read(p)
	if len(l) != len(texts) {
		t.Fatalf("Read of %s: %d objects, wanted %d", what, len(l), len(texts))
	}
	for i, x := range l {
		if string(x.Object.Data) != texts[i] {
			t.Errorf("Read of %s: the object %d is %.100q, wanted %.100q", what, i, x.Object.Data, texts[i])
		}
	}
}

// insert answers a delta that makes a text of any base with so many bytes.
func insert(baseCount int, text string) []byte {
	d, e := delta.Make(make([]byte, baseCount), []byte(text))
	if e != api.OK {
		panic("Make: error " + strconv.Itoa(int(e)))
	}
	return d
}

// object, onSpan and onId answer an item of that kind.
func object(kind int, text string) pack.Item { return pack.Item{Kind: kind, Data: []byte(text)} }

func onSpan(back int, d []byte) pack.Item { return pack.Item{Kind: 6, Data: d, Back: back} }

func onId(base api.Id, d []byte) pack.Item { return pack.Item{Kind: 7, Data: d, Base: base} }

// blobId answers the id of a blob.
func blobId(text string) api.Id { return idOf(3, []byte(text)) }

// roomy answers the bytes with spare room that isn't 0.
func roomy(p []byte) []byte {
	q := append(bytes.Clone(p), bytes.Repeat([]byte{0xa5}, 300)...)
	return q[:len(p):len(q)]
}

// wantRoomy fails if bytes made by roomy were changed, or their spare room.
func wantRoomy(t *testing.T, what string, p, was []byte) {
	t.Helper()
	if !bytes.Equal(p, was) || len(bytes.Trim(p[len(p):cap(p)], "\xa5")) != 0 {
		t.Errorf("%s changes its argument", what)
	}
}

// scratch writes over bytes and their spare room.
func scratch(p []byte) {
	p = p[:cap(p)]
	for i := range p {
		p[i] = 0x5a
	}
}
