package loose_test

import (
	"bytes"
	"math/rand"
	"strconv"
	"strings"
	"testing"

	"codicil/api"
	"codicil/loose"
	"codicil/zlib"
)

// plainOpen answers by the chapter's words the object that a text is, and whether it is one.
func plainOpen(text string) (api.Object, bool) {
	header, data, cut := strings.Cut(text, "\x00")
	for kind, word := range words() {
		if cut && header == word+" "+strconv.Itoa(len(data)) {
			return api.Object{Kind: kind, Data: []byte(data)}, true
		}
	}
	return api.Object{}, false
}

// wantPlain fails unless a text is opened as the plain model says; it answers whether it is an object.
func wantPlain(t *testing.T, text string) bool {
	t.Helper()
	wanted, is := plainOpen(text)
	p := wrap(t, []byte(text), 0)
	if !is {
		wantNoOpen(t, strconv.Quote(text), p, api.ErrForm)
		return false
	}
	o, e := loose.Open(p)
	wantObject(t, strconv.Quote(text), o, e, wanted)
	return true
}

// P13.1: the chapter's example, and each kind.
func TestOpenExamples(t *testing.T) {
	for _, text := range []string{"blob 3\x00abc", "tree 3\x00abc", "commit 3\x00abc", "tag 3\x00abc", "blob 0\x00", "blob 1\x00\x00", "tag 10\x000123456789"} {
		if !wantPlain(t, text) {
			t.Errorf("%q is no object", text)
		}
	}
	for _, text := range []string{"blob 03\x00abc", "blob 2\x00abc", "blub 3\x00abc"} {
		wantNoOpen(t, text, wrap(t, []byte(text), 2), api.ErrForm)
	}
}

// P13.1: what comes out is no header and just so many bytes.
func TestOpenNoHeader(t *testing.T) {
	for _, text := range []string{
		"", "\x00", "\x00abc", "blob", "blob 3", "blob 3abc", "blob 3 abc", "blob 3\nabc", "blob 0", "blob\x003\x00abc", "blob3\x00abc", "blob \x00", "blob \x00abc", " \x00", " 0\x00", "0\x00",
		"blob 4\x00abc", "blob 2\x00abc", "blob 1\x00", "blob 0\x00a", "blob 3\x00", "blob 00\x00", "blob 000000003\x00abc", "blob 010\x000123456789",
		"blob +3\x00abc", "blob -3\x00abc", "blob -0\x00", "blob +0\x00", "blob 0x3\x00abc", "blob 3.\x00abc", "blob 3e0\x00abc", "blob ٣\x00abc", "blob 1_0\x000123456789",
		" blob 3\x00abc", "blob  3\x00abc", "blob 3 \x00abc", "blob\t3\x00abc", "\nblob 3\x00abc", "blob 3\r\x00abc",
		"Blob 3\x00abc", "BLOB 3\x00abc", "blo 3\x00abc", "blobs 3\x00abc", "tre 3\x00abc", "commits 3\x00abc", "tags 3\x00abc", "3 3\x00abc", " 3\x00abc",
		"blob 4294967299\x00abc", "blob 18446744073709551619\x00abc", "blob 259\x00abc", "blob 99999999999999999999999999\x00abc", "blob 1048577\x00abc",
		"blob 3\x00\x00abc", "blob 3\x00abc\x00",
	} {
		if wantPlain(t, text) {
			t.Errorf("%q is an object", text)
		}
	}
}

// P13.1: texts of which one byte is another one, one is more or one is less, each place.
func TestOpenTurned(t *testing.T) {
	const others = "\x00 \n+-0139:/abmoBT\x80\xff"
	for _, text := range []string{"blob 3\x00abc", "tree 10\x000123456789", "commit 0\x00", "tag 9\x00tag 9\x00tag", "blob 12\x00blob 3\x00abcde"} {
		for n := range len(text) + 1 {
			wantPlain(t, text[:n])
			wantPlain(t, text[n:])
			for i := range len(others) {
				wantPlain(t, text[:n]+others[i:i+1]+text[n:])
				if n < len(text) {
					wantPlain(t, text[:n]+others[i:i+1]+text[n+1:])
					wantPlain(t, text[:n]+text[n+1:])
				}
			}
		}
	}
}

// P13.1: an object is opened in whatever way it was wrapped.
func TestOpenWays(t *testing.T) {
	for _, o := range samples() {
		whole := headed(o)
		streams := [][]byte{wrap(t, whole, 0), wrap(t, whole, 1), wrap(t, whole, 2)}
		for level := -2; level <= 9; level++ {
			streams = append(streams, squeezed(whole, level))
		}
		for _, p := range streams {
			got, e := loose.Open(p)
			wantObject(t, "Open of a stream", got, e, o)
			wantNoOpen(t, "a stream with a byte behind it", append(bytes.Clone(p), 0), api.ErrForm)
			wantNoOpen(t, "a stream with another behind it", append(bytes.Clone(p), p...), api.ErrForm)
		}
	}
}

// P13.1: zlib.Unwrap's errors are Open's, ahead of all others.
func TestOpenStream(t *testing.T) {
	wantNoOpen(t, "nothing", nil, api.ErrShort)
	wantNoOpen(t, "no bytes", []byte{}, api.ErrShort)
	wantNoOpen(t, "no stream", []byte("blob 3\x00abc"), api.ErrForm)
	for _, text := range []string{"blob 3\x00abc", "blub 3\x00abc"} {
		whole := []byte(text)
		for _, p := range [][]byte{wrap(t, whole, 0), wrap(t, whole, 1), squeezed(whole, 9)} {
			for n := range len(p) {
				wantNoOpen(t, "a stream that is cut", p[:n], api.ErrShort)
			}
			turned := bytes.Clone(p)
			turned[len(p)-1] ^= 1
			wantNoOpen(t, "a sum that is turned", turned, api.ErrSum)
			wantNoOpen(t, "a sum that is turned, and a byte behind", append(turned, 0), api.ErrSum)
		}
	}
}

// P13.1: just MaxData bytes may come out, headers too.
func TestOpenLimit(t *testing.T) {
	most := blob(string(bytes.Repeat([]byte{'a'}, api.MaxData-len("blob 1048563\x00"))))
	for _, p := range [][]byte{wrap(t, headed(most), 0), squeezed(headed(most), 9)} {
		o, e := loose.Open(p)
		wantObject(t, "MaxData bytes", o, e, most)
	}
	for _, n := range []int{len(most.Data) + 1, api.MaxData - 1, api.MaxData, api.MaxData + 1} {
		over := blob(string(bytes.Repeat([]byte{'a'}, n)))
		wantNoOpen(t, "more than MaxData bytes", squeezed(headed(over), 9), api.ErrLimit)
		wantNoOpen(t, "more than MaxData bytes, stored", squeezed(headed(over), 0), api.ErrLimit)
	}
}

// P1, P13.1: bytes by chance and streams with turned bytes end with Unwrap's error, or as the plain model says.
func TestOpenByChance(t *testing.T) {
	r := rand.New(rand.NewSource(7))
	for i := range 20000 {
		o := api.Object{Kind: api.Kind(1 + r.Intn(4)), Data: noise(int64(i), r.Intn(40), 1+r.Intn(256))}
		p := wrap(t, headed(o), r.Intn(2))
		if r.Intn(3) == 0 {
			p = squeezed(headed(o), r.Intn(10))
		}
		for range r.Intn(3) {
			p[r.Intn(len(p))] ^= 1 << r.Intn(8)
		}
		whole, n, wanted := zlib.Unwrap(p, api.MaxData)
		object, is := plainOpen(string(whole))
		if wanted == api.OK && (n < len(p) || !is) {
			wanted = api.ErrForm
		}
		got, e := loose.Open(p)
		if wanted != api.OK {
			wantNone(t, "a turned stream", got, e, wanted)
			continue
		}
		wantObject(t, "a turned stream", got, e, object)
	}
}

// 'Memory': Open changes nothing, and its answer is new.
func TestOpenMemory(t *testing.T) {
	for way := range 3 {
		was := wrap(t, headed(blob("abcdefgh")), way)
		p := roomy(was)
		first, _ := loose.Open(p)
		second, _ := loose.Open(p)
		wantRoomy(t, "Open", p, was)
		scratch(second.Data)
		wantRoomy(t, "who writes over Open's answer", p, was)
		scratch(p)
		if string(first.Data) != "abcdefgh" {
			t.Error("Open's answer shares memory")
		}
		refused := roomy(was[:len(was)-1])
		loose.Open(refused)
		wantRoomy(t, "Open with an error", refused, was[:len(was)-1])
	}
}
