package delta_test

import (
	"bytes"
	"math/rand"
	"slices"
	"testing"

	"codicil/api"
	"codicil/delta"
)

// wantMade fails unless Make answers a delta from base to target that isn't too long; it answers the delta.
func wantMade(t *testing.T, what string, base, target []byte) []byte {
	t.Helper()
	d, e := delta.Make(base, target)
	if e != api.OK {
		t.Fatalf("%s: Make: error %d", what, e)
	}
	if p, e := delta.Apply(base, d, len(target)); e != api.OK || !bytes.Equal(p, target) {
		t.Fatalf("%s: Apply of what was made: %.50x, error %d, wanted %.50x", what, p, e, target)
	}
	if p, e := plainApply(base, d, len(target)); e != api.OK || !bytes.Equal(p, target) {
		t.Fatalf("%s: the plain model of what was made: %.50x, error %d, wanted %.50x", what, p, e, target)
	}
	if most := 20 + len(target) + (len(target)+126)/127; len(d) > most {
		t.Errorf("%s: a delta of %d bytes, wanted at most %d", what, len(d), most)
	}
	if bytes.Equal(base, target) && len(base) >= 64 && len(d) > 40 {
		t.Errorf("%s: a delta of %d bytes from %d bytes to themselves, wanted at most 40", what, len(d), len(base))
	}
	return d
}

// P8.2: of empty lists, and to and from them.
func TestMakeEmpty(t *testing.T) {
	wantMade(t, "nil", nil, nil)
	wantMade(t, "empty", []byte{}, []byte{})
	for n := range 300 {
		wantMade(t, "from nothing", nil, noise(1, n, 256))
		wantMade(t, "to nothing", noise(1, n, 256), nil)
	}
}

// P8.2: of alike lists, 63 and 64 bytes among them, of bytes by chance and of bytes that are all the same.
func TestMakeAlike(t *testing.T) {
	for n := range 400 {
		for _, kinds := range []int{1, 2, 3, 256} {
			p := noise(int64(n), n, kinds)
			wantMade(t, "alike", p, p)
			wantMade(t, "alike", p, bytes.Clone(p))
		}
	}
	for _, n := range []int{4095, 65535, 65536, 65537, 100000, api.MaxData - 1, api.MaxData} {
		for _, kinds := range []int{1, 2, 256} {
			p := noise(int64(n), n, kinds)
			wantMade(t, "many alike", p, bytes.Clone(p))
		}
	}
}

// P8.2: of lists that differ everywhere the delta has no more bytes than inserts have.
func TestMakeOther(t *testing.T) {
	for _, n := range []int{1, 15, 16, 17, 126, 127, 128, 129, 253, 254, 255, 256, 381, 382, 1000, 5000, api.MaxData} {
		base, target := bytes.Repeat([]byte{'a'}, n), bytes.Repeat([]byte{'b'}, n)
		wantMade(t, "differ everywhere", base, target)
		wantMade(t, "by chance", noise(1, n, 256), noise(2, n, 256))
		wantMade(t, "a base of another count", noise(1, n/2, 256), noise(2, n, 256))
		wantMade(t, "another count", noise(1, n, 256), noise(2, n/2, 256))
	}
}

// P8.2: the greatest lengths, and one byte more.
func TestMakeLong(t *testing.T) {
	most, beyond := make([]byte, api.MaxData), make([]byte, api.MaxData+1)
	for _, x := range [][2][]byte{{beyond, nil}, {nil, beyond}, {beyond, beyond}, {beyond, most}, {most, beyond}, {make([]byte, 3*api.MaxData), most}} {
		if d, e := delta.Make(x[0], x[1]); len(d) != 0 || e != api.ErrLong {
			t.Errorf("%d, %d bytes: a delta of %d bytes, error %d, wanted ErrLong alone", len(x[0]), len(x[1]), len(d), e)
		}
	}
	wantMade(t, "MaxData", most, most)
	wantMade(t, "MaxData to nothing", most, nil)
	wantMade(t, "nothing to MaxData", nil, most)
	wantMade(t, "MaxData to a byte", most, []byte{0})
	wantMade(t, "a byte to MaxData", []byte{0}, most)
	noisy := noise(3, api.MaxData, 256)
	turned := bytes.Clone(noisy)
	for i := 0; i < len(turned); i += 5000 {
		turned[i]++
	}
	wantMade(t, "MaxData with bytes turned", noisy, turned)
	wantMade(t, "MaxData from its end on", noisy, append(bytes.Clone(noisy[len(noisy)/3:]), noisy[:len(noisy)/3]...))
}

// edited answers bytes with a few changes by chance.
func edited(r *rand.Rand, p []byte, kinds int) []byte {
	q := bytes.Clone(p)
	for range r.Intn(8) {
		from := r.Intn(len(q) + 1)
		to := from + r.Intn(len(q)-from+1)
		switch r.Intn(5) {
		case 0:
			q = slices.Delete(q, from, min(to, from+40))
		case 1:
			q = slices.Insert(q, from, noise(r.Int63(), r.Intn(200), kinds)...)
		case 2:
			q = slices.Insert(q, from, bytes.Clone(q[from:min(to, from+300)])...)
		case 3:
			q = append(bytes.Clone(q[from:]), q[:from]...)
		case 4:
			if from < len(q) {
				q[from]++
			}
		}
	}
	return q
}

// P8.2: of lists that are alike in parts.
func TestMakeEdited(t *testing.T) {
	r := rand.New(rand.NewSource(7))
	for range 4000 {
		kinds := []int{1, 2, 4, 256}[r.Intn(4)]
		base := noise(r.Int63(), r.Intn(1+r.Intn(2000)), kinds)
		wantMade(t, "edited", base, edited(r, base, kinds))
	}
}

// P8.2: pieces of base of each length, between bytes that base hasn't: where pieces are short and many, the delta isn't too long either.
func TestMakePieces(t *testing.T) {
	base := noise(8, 66000, 250)
	r := rand.New(rand.NewSource(9))
	for length := 1; length < 70; length++ {
		for _, gap := range []int{0, 1, 2, 126, 127, 128} {
			var target []byte
			for range 40 {
				from := r.Intn(len(base) - length)
				target = append(target, bytes.Repeat([]byte{255}, gap)...)
				target = append(target, base[from:from+length]...)
			}
			wantMade(t, "pieces", base, target)
		}
	}
}

// Which delta is made is free: but it is made to be short where lists are alike in long runs, wherever these stand.
func TestMakeIsShort(t *testing.T) {
	p := noise(10, 100000, 256)
	x := []byte("xyz")
	for what, q := range map[string][]byte{
		"bytes ahead":      join(x, p),
		"bytes behind":     join(p, x),
		"bytes within":     join(p[:50001], x, p[50001:]),
		"bytes less":       join(p[:33333], p[33340:]),
		"both parts about": join(p[77777:], p[:77777]),
		"a part of it":     p[501:90001],
		"twice":            join(p, p),
	} {
		if d := wantMade(t, what, p, q); len(d) > 30 {
			t.Errorf("%s: a delta of %d bytes", what, len(d))
		}
	}
}

// The rule 'Memory': Make neither changes nor keeps what is handed in, nor reads its spare room; P2: it answers the same again.
func TestMakeMemory(t *testing.T) {
	base := noise(11, 500, 256)
	target := join(base[100:300], []byte("something else"), base[:200])
	b, q := roomy(base), roomy(target)
	first, _ := delta.Make(b, q)
	wantRoomy(t, "Make", b, base)
	wantRoomy(t, "Make", q, target)
	wanted, _ := delta.Make(bytes.Clone(base), bytes.Clone(target))
	second, _ := delta.Make(b, q)
	scratch(b)
	scratch(q)
	scratch(second)
	if !bytes.Equal(first, wanted) {
		t.Errorf("Make's answer shares memory, or hangs on spare room")
	}
	for range 20 {
		if again, _ := delta.Make(base, target); !bytes.Equal(again, wanted) {
			t.Fatalf("Make answers otherwise another time")
		}
	}
}
