package object_test

import (
	"bytes"
	"crypto/sha256"
	"encoding/hex"
	"fmt"
	"math/rand"
	"reflect"
	"strings"
	"testing"
	"unsafe"

	"codicil/api"
)

// letters answers a text of n letters.
func letters(n int) string { return strings.Repeat("a", n) }

// idOf answers an id whose bytes hang on n.
func idOf(n int) api.Id { return sha256.Sum256([]byte{byte(n), byte(n >> 8), byte(n >> 16)}) }

// digits answers an id's digits.
func digits(id api.Id) string { return hex.EncodeToString(id[:]) }

// kinds answers all kinds and their words.
func kinds() map[api.Kind]string {
	return map[api.Kind]string{api.Commit: "commit", api.Tree: "tree", api.Blob: "blob", api.Tag: "tag"}
}

// noKinds answers numbers that are no kind.
func noKinds() []api.Kind {
	return []api.Kind{0, 5, 6, 7, 8, 9, -1, -2, -4, 257, 258, 1 << 32, 1<<32 + 1, 1<<32 + 3, -1 << 63, 1<<63 - 1}
}

// chance answers a text of at most n pieces, by chance.
func chance(r *rand.Rand, n int, pieces ...string) string {
	var s strings.Builder
	for range r.Intn(n + 1) {
		s.WriteString(pieces[r.Intn(len(pieces))])
	}
	return s.String()
}

// anyId answers an id by chance, at times all 0.
func anyId(r *rand.Rand) api.Id {
	if r.Intn(10) == 0 {
		return api.Id{}
	}
	return idOf(r.Intn(1 << 24))
}

// anyIdent answers an ident that may be, by chance.
func anyIdent(r *rand.Rand) api.Ident {
	return api.Ident{
		Name:  chance(r, 4, "a", " ", "B", "\xff", "author", letters(20)),
		Email: chance(r, 4, "a", "@", " ", "\r", "tree ", letters(20)),
		Time:  r.Intn(1<<40 + 1),
		Zone:  r.Intn(2879) - 1439,
	}
}

// noIdents answers idents that are none.
func noIdents() []api.Ident {
	return []api.Ident{
		{Name: "a\n"}, {Name: "a\x00"}, {Name: "<"}, {Name: ">"}, {Name: letters(101)}, {Email: "a\n"}, {Email: "\x00"}, {Email: "<"}, {Email: ">"}, {Email: letters(101)},
		{Time: -1}, {Time: 1<<40 + 1}, {Zone: -1440}, {Zone: 1440},
	}
}

// someIdents answers idents that may be, at their edges.
func someIdents() []api.Ident {
	return []api.Ident{
		{}, {Name: "A B", Email: "a@b", Time: 5, Zone: -90}, {Name: letters(100), Email: strings.Repeat("\xff", 100), Time: 1 << 40, Zone: 1439}, {Name: " ", Email: "parent ", Zone: -1439}, {Name: "author", Email: "committer", Time: 1},
	}
}

// identText answers how an ident that may be is written.
func identText(i api.Ident) string {
	two := func(n int) string { return string([]byte{byte('0' + n/10%10), byte('0' + n%10)}) }
	sign, zone := "+", i.Zone
	if zone < 0 {
		sign, zone = "-", -zone
	}
	return i.Name + " <" + i.Email + "> " + decimal(i.Time) + " " + sign + two(zone/60) + two(zone%60)
}

// decimal answers a number's digits.
func decimal(n int) string {
	if n < 10 {
		return string([]byte{byte('0' + n)})
	}
	return decimal(n/10) + decimal(n%10)
}

// wantErrno fails unless an error is the one wanted.
func wantErrno(t *testing.T, what string, got, wanted api.Errno) {
	t.Helper()
	if got != wanted {
		t.Errorf("%s: error %d, wanted %d", what, got, wanted)
	}
}

// format is a Put call and its Parse call.
type format[T any] struct {
	name  string
	put   func(T) ([]byte, api.Errno)
	parse func([]byte) (T, api.Errno)
}

// wantText fails unless v is written as text, and text is read as v (P7.4).
func (f format[T]) wantText(t *testing.T, v T, text string) {
	t.Helper()
	if p, e := f.put(v); string(p) != text || e != api.OK {
		t.Fatalf("Put%s(%.300q): %.300q, error %d, wanted %.300q", f.name, show(v), p, e, text)
	}
	w, e := f.parse([]byte(text))
	if e != api.OK || !same(v, w) {
		t.Fatalf("Parse%s(%.300q): %.300q, error %d", f.name, text, show(w), e)
	}
	if p, e := f.put(w); string(p) != text || e != api.OK {
		t.Fatalf("%s %.300q is put again as %.300q, error %d", f.name, text, p, e)
	}
}

// wantNoPut fails unless v is not written, with that error alone.
func (f format[T]) wantNoPut(t *testing.T, what string, v T, wanted api.Errno) {
	t.Helper()
	if p, e := f.put(v); len(p) != 0 || e != wanted {
		t.Errorf("Put%s of %s: %.300q, error %d, wanted error %d alone", f.name, what, p, e, wanted)
	}
}

// wantNoForm fails unless each text is refused with ErrForm alone.
func (f format[T]) wantNoForm(t *testing.T, texts ...string) {
	t.Helper()
	var none T
	for _, s := range texts {
		if v, e := f.parse([]byte(s)); e != api.ErrForm || !same(v, none) {
			t.Errorf("Parse%s(%.300q): %.300q, error %d, wanted ErrForm alone", f.name, s, show(v), e)
		}
	}
}

// wantPlain fails unless text is read as the plain model reads it; it tells whether it was read.
func (f format[T]) wantPlain(t *testing.T, text string, plain func(string) (T, bool)) bool {
	t.Helper()
	v, may := plain(text)
	if may {
		f.wantText(t, v, text)
	} else {
		f.wantNoForm(t, text)
	}
	return may
}

// wantTurned holds a text against the plain model, cut short at each place, with a byte less, another one or one more, and with bytes behind.
func (f format[T]) wantTurned(t *testing.T, text string, plain func(string) (T, bool)) {
	t.Helper()
	const others = "\x00\n\r\t /.-+<>0179aefgAFpt\x7f\x80\xff"
	if !f.wantPlain(t, text, plain) {
		t.Fatalf("%s %.300q is none", f.name, text)
	}
	for n := range len(text) {
		f.wantPlain(t, text[:n], plain)
		f.wantPlain(t, text[n:], plain)
		f.wantPlain(t, text[:n]+text[n+1:], plain)
		for i := range len(others) {
			f.wantPlain(t, text[:n]+others[i:i+1]+text[n+1:], plain)
			f.wantPlain(t, text[:n]+others[i:i+1]+text[n:], plain)
		}
	}
	for i := range len(others) {
		f.wantPlain(t, text+others[i:i+1], plain)
	}
	f.wantPlain(t, text+text, plain)
}

// wantLong fails unless bytes beyond MaxData are refused with ErrLong, and as many as MaxData as the format has it.
func (f format[T]) wantLong(t *testing.T, text string, atMost api.Errno) {
	t.Helper()
	var none T
	p := append([]byte(text), bytes.Repeat([]byte{'a'}, api.MaxData+1-len(text))...)
	if v, e := f.parse(p); e != api.ErrLong || !same(v, none) {
		t.Errorf("Parse%s of one byte beyond MaxData: error %d, wanted ErrLong alone", f.name, e)
	}
	_, e := f.parse(p[:api.MaxData])
	wantErrno(t, "Parse"+f.name+" of MaxData bytes", e, atMost)
	if _, e := f.parse(make([]byte, 2*api.MaxData)); e != api.ErrLong {
		t.Errorf("Parse%s of twice MaxData bytes 0: error %d, wanted ErrLong", f.name, e)
	}
}

// wantOwn fails if a call changes what is handed in, keeps it or lets two answers share memory (the rule 'Memory').
func (f format[T]) wantOwn(t *testing.T, v T) {
	t.Helper()
	first, _ := f.put(v)
	wanted := string(first)
	second, _ := f.put(v)
	scratch(second)
	if string(first) != wanted {
		t.Errorf("two answers of Put%s share memory", f.name)
	}
	scratch(first)
	p := roomy(wanted)
	w, e := f.parse(p)
	if e != api.OK || !same(v, w) {
		t.Fatalf("Parse%s with spare room: error %d", f.name, e)
	}
	wantRoomy(t, "Parse"+f.name, p, wanted)
	scratch(p)
	if !same(v, w) {
		t.Errorf("Parse%s's answer shares memory with its argument", f.name)
	}
	refused := roomy(wanted[:len(wanted)-1] + "\x00")
	f.parse(refused)
	wantRoomy(t, "Parse"+f.name, refused, wanted[:len(wanted)-1]+"\x00")
}

// roomy answers the bytes of text with spare room that isn't 0.
func roomy(text string) []byte {
	p := []byte(text + strings.Repeat("\xa5", 300))
	return p[:len(text):len(p)]
}

// wantRoomy fails if bytes made by roomy were changed, or their spare room.
func wantRoomy(t *testing.T, what string, p []byte, text string) {
	t.Helper()
	if string(p) != text || strings.Trim(string(p[len(p):cap(p)]), "\xa5") != "" {
		t.Errorf("%s changes its argument", what)
	}
}

// scratch writes over bytes and their spare room.
func scratch(p []byte) {
	p = p[:cap(p)]
	for i := range p {
		p[i] = 0x5a
	}
}

// within answers whether a text stands in another one's memory.
func within(part, whole string) bool {
	if part == "" {
		return false
	}
	at, begin := uintptr(unsafe.Pointer(unsafe.StringData(part))), uintptr(unsafe.Pointer(unsafe.StringData(whole)))
	return at >= begin && at < begin+uintptr(len(whole))
}

// wantApart fails if two of the texts share memory.
func wantApart(t *testing.T, texts ...string) {
	t.Helper()
	for i, a := range texts {
		for j, b := range texts {
			if i != j && within(a, b) {
				t.Errorf("%.50q shares memory with %.50q", a, b)
			}
		}
	}
}

// same answers whether two values are the same; nil and empty lists are.
func same(a, b any) bool { return reflect.DeepEqual(plainLists(a), plainLists(b)) }

// plainLists answers a value with nil where it has an empty list.
func plainLists(v any) any {
	switch v := v.(type) {
	case []api.Entry:
		if len(v) == 0 {
			return []api.Entry(nil)
		}
	case api.Snapshot:
		if len(v.Parents) == 0 {
			v.Parents = nil
		}
		return v
	}
	return v
}

// show answers a value as a text for a failure.
func show(v any) string { return fmt.Sprintf("%+v", v) }
