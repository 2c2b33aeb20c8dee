package loose_test

import (
	"bytes"
	"testing"

	"codicil/api"
	"codicil/loose"
)

// P13.1: the place of an id.
func TestPlace(t *testing.T) {
	if got := loose.Place(api.Id{}); got != "objects/00/"+string(bytes.Repeat([]byte("0"), 62)) {
		t.Errorf("Place of noughts: %s", got)
	}
	var id api.Id
	for first := range 256 {
		for i := range id {
			id[i] = byte(first + 7*i)
		}
		if got := loose.Place(id); got != placeOf(id) || len(got) != 73 {
			t.Errorf("Place(%x): %s", id, got)
		}
	}
}

// P13.1: Pack is the header and the bytes, wrapped in the way 2.
func TestPack(t *testing.T) {
	for _, o := range samples() {
		p := pack(t, o)
		if !bytes.Equal(p, wrap(t, headed(o), 2)) {
			t.Errorf("Pack of the kind %d, %d bytes: %.100x", o.Kind, len(o.Data), p)
		}
		if e := loose.Fits(o); e != api.OK {
			t.Errorf("Fits of the kind %d, %d bytes: error %d", o.Kind, len(o.Data), e)
		}
	}
	// In the ways 0 and 1 this one has other bytes than these.
	long := blob(string(bytes.Repeat([]byte("abc"), 1000)))
	if p := pack(t, long); len(p) > 100 || p[0] != 0x78 || p[1] != 0x01 {
		t.Errorf("Pack of 3000 like bytes: %d bytes, %.10x", len(p), p)
	}
	if p := pack(t, blob(string(noise(5, 300, 256)))); len(p) != 2+5+9+300+4 {
		t.Errorf("Pack of 300 unlike bytes: %d bytes", len(p))
	}
}

// wantNoPack fails unless Pack answers that error alone, and Fits the same.
func wantNoPack(t *testing.T, o api.Object, wanted api.Errno) {
	t.Helper()
	if p, e := loose.Pack(o); len(p) != 0 || e != wanted {
		t.Errorf("Pack of the kind %d, %d bytes: %d bytes, error %d, wanted error %d alone", o.Kind, len(o.Data), len(p), e, wanted)
	}
	if e := loose.Fits(o); e != wanted {
		t.Errorf("Fits of the kind %d, %d bytes: error %d, wanted %d", o.Kind, len(o.Data), e, wanted)
	}
}

// P13.1: header and bytes together have up to MaxData bytes.
func TestPackLimit(t *testing.T) {
	for kind, word := range words() {
		room := api.MaxData - len(word+" 1048560\x00")
		o := api.Object{Kind: kind, Data: make([]byte, room)}
		back, e := loose.Open(pack(t, o))
		wantObject(t, "Open of the greatest "+word, back, e, o)
		for _, n := range []int{room + 1, room + 2, api.MaxData - 1, api.MaxData, api.MaxData + 1, 2 * api.MaxData} {
			wantNoPack(t, api.Object{Kind: kind, Data: make([]byte, n)}, api.ErrLong)
		}
	}
}

// P13.1: a kind that there isn't has object.Id's error.
func TestPackKinds(t *testing.T) {
	for _, kind := range []api.Kind{0, 5, 6, 7, -1, -3, 256 + 3, 1<<32 + 3, -1 << 63, 1<<63 - 1} {
		for _, n := range []int{0, 3, api.MaxData} {
			wantNoPack(t, api.Object{Kind: kind, Data: make([]byte, n)}, api.ErrType)
		}
		wantNoPack(t, api.Object{Kind: kind, Data: make([]byte, api.MaxData+1)}, api.ErrLong)
	}
}

// P13.2: what was packed is opened.
func TestOpenPacked(t *testing.T) {
	for _, o := range samples() {
		back, e := loose.Open(pack(t, o))
		wantObject(t, "Open of Pack", back, e, o)
	}
}

// 'Memory': Pack changes nothing, and its answer is new.
func TestPackMemory(t *testing.T) {
	for _, data := range [][]byte{[]byte("abc"), noise(6, 3000, 256)} {
		o := api.Object{Kind: api.Blob, Data: roomy(data)}
		first, second := pack(t, o), pack(t, o)
		wantRoomy(t, "Pack", o.Data, data)
		wanted := bytes.Clone(first)
		scratch(second)
		scratch(o.Data)
		if !bytes.Equal(first, wanted) {
			t.Error("Pack's answer shares memory")
		}
		scratch(first)
		if again := pack(t, api.Object{Kind: api.Blob, Data: data}); !bytes.Equal(again, wanted) {
			t.Error("Pack answers something else the next time")
		}
	}
}
