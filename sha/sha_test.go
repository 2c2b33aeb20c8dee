package sha_test

import (
	"bytes"
	"crypto/sha256"
	"encoding"
	"encoding/binary"
	"encoding/hex"
	"math"
	"math/rand"
	"strings"
	"testing"

	"codicil/api"
	"codicil/sha"
)

// firstWords is H, as FIPS 180-4 prints it.
var firstWords = [8]uint32{
	0x6a09e667, 0xbb67ae85, 0x3c6ef372, 0xa54ff53a, 0x510e527f, 0x9b05688c, 0x1f83d9ab, 0x5be0cd19,
}

const noneHex = "e3b0c44298fc1c149afbf4c8996fb92427ae41e4649b934ca495991b7852b855"

// libraryBlock takes any eight words through a block by the library's hash, whose state can be set and asked.
func libraryBlock(t *testing.T, h [8]uint32, b [64]byte) [8]uint32 {
	t.Helper()
	state := []byte("sha\x03")
	for _, w := range h {
		state = binary.BigEndian.AppendUint32(state, w)
	}
	state = append(state, make([]byte, 64+8)...)
	d := sha256.New()
	if err := d.(encoding.BinaryUnmarshaler).UnmarshalBinary(state); err != nil {
		t.Fatal(err)
	}
	d.Write(b[:])
	after, err := d.(encoding.BinaryMarshaler).MarshalBinary()
	if err != nil {
		t.Fatal(err)
	}
	var out [8]uint32
	for i := range out {
		out[i] = binary.BigEndian.Uint32(after[4+4*i:])
	}
	return out
}

// P1.1
func TestBlockOfAbc(t *testing.T) {
	b := [64]byte{'a', 'b', 'c', 0x80, 63: 24}
	wanted := [8]uint32{
		0xba7816bf, 0x8f01cfea, 0x414140de, 0x5dae2223, 0xb00361a3, 0x96177a9c, 0xb410ff61, 0xf20015ad,
	}
	if got := sha.Block(firstWords, b); got != wanted {
		t.Errorf("Block of abc: %x, wanted %x", got, wanted)
	}
}

// P1.1
func TestBlockAtAnyWords(t *testing.T) {
	r := rand.New(rand.NewSource(1))
	hs := [][8]uint32{{}, {math.MaxUint32, math.MaxUint32, math.MaxUint32, math.MaxUint32, math.MaxUint32, math.MaxUint32, math.MaxUint32, math.MaxUint32}}
	for range 200 {
		var h [8]uint32
		for i := range h {
			h[i] = r.Uint32()
		}
		hs = append(hs, h)
	}
	for _, h := range hs {
		var b [64]byte
		r.Read(b[:])
		if got, wanted := sha.Block(h, b), libraryBlock(t, h, b); got != wanted {
			t.Fatalf("Block(%x, %x): %x, wanted %x", h, b, got, wanted)
		}
	}
}

// P1.1
func TestPadLength(t *testing.T) {
	for n, wanted := range map[int]int{
		math.MinInt: 64, -64: 64, -56: 64, -1: 64, 0: 64, 1: 63, 54: 10, 55: 9, 56: 72, 57: 71, 63: 65, 64: 64, 65: 63,
		119: 9, 120: 72, 128: 64, math.MaxInt - 8: 9, math.MaxInt - 7: 72, math.MaxInt: 65,
	} {
		if got := len(sha.Pad(n)); got != wanted {
			t.Errorf("Pad(%d): %d bytes, wanted %d", n, got, wanted)
		}
	}
}

// P1.1
func TestPadBytes(t *testing.T) {
	ns := []int{math.MinInt, -1, 1 << 28, 1 << 29, 1<<32 + 7, 1 << 60, 1 << 61, 1<<61 + 55, math.MaxInt}
	for n := range 200 {
		ns = append(ns, n)
	}
	for _, n := range ns {
		got := sha.Pad(n)
		count := uint64(max(n, 0))
		if (count%64+uint64(len(got)))%64 != 0 || len(got) < 9 || len(got) > 72 {
			t.Fatalf("Pad(%d): %d bytes", n, len(got))
		}
		wanted := append([]byte{0x80}, make([]byte, len(got)-9)...)
		wanted = binary.BigEndian.AppendUint64(wanted, 8*count)
		if !bytes.Equal(got, wanted) {
			t.Errorf("Pad(%d): %x, wanted %x", n, got, wanted)
		}
	}
}

// P1.2
func TestSumExamples(t *testing.T) {
	for text, wanted := range map[string]string{
		"":    noneHex,
		"abc": "ba7816bf8f01cfea414140de5dae2223b00361a396177a9cb410ff61f20015ad",
		"abcdbcdecdefdefgefghfghighijhijkijkljklmklmnlmnomnopnopq": "248d6a61d20638b8e5c026930c3e6039a33ce45964ff2167f6ecedd419db06c1",
		strings.Repeat("a", 1000000):                               "cdc76e5c9914fb9281a1c7e284d73e67f1809a48a497200e046d39ccc7112cd0",
	} {
		if got := sha.Hex(sha.Sum([]byte(text))); got != wanted {
			t.Errorf("Sum of %d bytes: %s, wanted %s", len(text), got, wanted)
		}
	}
	if got := sha.Hex(sha.Sum(nil)); got != noneHex {
		t.Errorf("Sum(nil): %s, wanted %s", got, noneHex)
	}
}

// P1.2
func TestSumOfEachLength(t *testing.T) {
	p := make([]byte, 1000)
	rand.New(rand.NewSource(2)).Read(p)
	for n := range len(p) {
		if got, wanted := sha.Sum(p[:n]), api.Id(sha256.Sum256(p[:n])); got != wanted {
			t.Fatalf("Sum of %d bytes: %x, wanted %x", n, got, wanted)
		}
	}
}

// P1.3
func TestHex(t *testing.T) {
	if got, wanted := sha.Hex(api.Id{}), strings.Repeat("0", 64); got != wanted {
		t.Errorf("Hex of nothing: %s", got)
	}
	for b := range 256 {
		id := api.Id{0: byte(b), 1: 0x0f, 30: 0xf0, 31: byte(b)}
		if got, wanted := sha.Hex(id), hex.EncodeToString(id[:]); got != wanted {
			t.Errorf("Hex(%x): %s", id, got)
		}
	}
}

// P1.3
func TestParseReadsWhatHexWrites(t *testing.T) {
	r := rand.New(rand.NewSource(3))
	for range 300 {
		var id api.Id
		r.Read(id[:])
		got, e := sha.Parse(sha.Hex(id))
		if e != api.OK || got != id {
			t.Fatalf("Parse(%s): %x, %d", sha.Hex(id), got, e)
		}
	}
}

// P1.3
func TestParseOfEachByte(t *testing.T) {
	for c := range 256 {
		for _, at := range []int{0, 1, 31, 62, 63} {
			text := []byte(noneHex)
			text[at] = byte(c)
			id, e := sha.Parse(string(text))
			if strings.IndexByte("0123456789abcdef", byte(c)) >= 0 {
				if e != api.OK || sha.Hex(id) != string(text) {
					t.Errorf("Parse(%q): %x, %d", text, id, e)
				}
			} else if e != api.ErrForm || id != (api.Id{}) {
				t.Errorf("Parse(%q): %x, %d, wanted nothing and ErrForm", text, id, e)
			}
		}
	}
}

// P1.3
func TestParseOfOtherTexts(t *testing.T) {
	for _, s := range []string{
		"", "e", "e3", "E3", noneHex[:63], noneHex[:62], noneHex + "0", noneHex + "00", noneHex + "\n", " " + noneHex[1:],
		noneHex + " ", strings.ToUpper(noneHex), "0x" + noneHex[2:], "0x" + noneHex, strings.Repeat("é", 32), noneHex + noneHex,
	} {
		if id, e := sha.Parse(s); e != api.ErrForm || id != (api.Id{}) {
			t.Errorf("Parse(%q): %x, %d, wanted nothing and ErrForm", s, id, e)
		}
	}
}

// P1.3
func TestCompare(t *testing.T) {
	for _, x := range []struct {
		a, b   api.Id
		wanted int
	}{
		{api.Id{}, api.Id{}, 0},
		{api.Id{1}, api.Id{2}, -1},
		{api.Id{0x7f}, api.Id{0x80}, -1},
		{api.Id{1, 0xff}, api.Id{2, 0}, -1},
		{api.Id{31: 1}, api.Id{31: 2}, -1},
		{api.Id{}, api.Id{31: 0xff}, -1},
		{api.Id{1, 31: 1}, api.Id{0, 31: 2}, 1},
		{api.Id{0: 5, 16: 9}, api.Id{0: 5, 16: 9}, 0},
		{api.Id{0: 0xff}, api.Id{}, 1},
	} {
		if got := sha.Compare(x.a, x.b); got != x.wanted {
			t.Errorf("Compare(%x, %x): %d, wanted %d", x.a, x.b, got, x.wanted)
		}
		if got := sha.Compare(x.b, x.a); got != -x.wanted {
			t.Errorf("Compare(%x, %x): %d, wanted %d", x.b, x.a, got, -x.wanted)
		}
	}
}

// The rule 'Memory', and that an answer doesn't hang on spare room.
func TestSumLeavesWhatItIsGiven(t *testing.T) {
	for n := range 140 {
		room := make([]byte, 300)
		rand.New(rand.NewSource(int64(n))).Read(room)
		before := bytes.Clone(room)
		got := sha.Sum(room[:n])
		if !bytes.Equal(room, before) {
			t.Fatalf("Sum of %d bytes changed what it was given", n)
		}
		if got != sha.Sum(room[:n:n]) {
			t.Fatalf("Sum of %d bytes hangs on the spare room", n)
		}
	}
}

// The rule 'Memory'
func TestPadsShareNothing(t *testing.T) {
	for _, n := range []int{-1, 0, 55, 56, 64} {
		first := sha.Pad(n)
		before := bytes.Clone(first)
		second := sha.Pad(n)
		second = second[:cap(second)]
		for i := range second {
			second[i] ^= 0xff
		}
		if !bytes.Equal(first, before) || !bytes.Equal(sha.Pad(n), before) {
			t.Errorf("Pad(%d): two answers share memory", n)
		}
	}
}
