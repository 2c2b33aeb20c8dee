package index_test

import (
	"bytes"
	"crypto/sha256"
	"encoding/binary"
	"fmt"
	"math/rand"
	"slices"
	"strings"
	"testing"

	"codicil/api"
	"codicil/index"
	"codicil/names"
)

// letters answers a text of n letters.
func letters(n int) string { return strings.Repeat("a", n) }

// long answers a path of n bytes, with parts that may be.
func long(n int) string {
	p := []byte(letters(n))
	for i := 90; i < n-1; i += 90 {
		p[i] = '/'
	}
	return string(p)
}

// idOf answers an id whose bytes hang on n.
func idOf(n int) api.Id { return sha256.Sum256([]byte{byte(n), byte(n >> 8)}) }

// slot answers a slot of a path at a stage.
func slot(path string, stage int) api.Slot {
	return api.Slot{Path: path, Stage: stage, Mode: api.ModeFile, Id: idOf(len(path) + 1000*stage), Size: 3 + stage, Time: 5}
}

// slots answers slots of these paths at the stage 0.
func slots(paths ...string) []api.Slot {
	var l []api.Slot
	for _, path := range paths {
		l = append(l, slot(path, 0))
	}
	return l
}

// many answers so many slots in order.
func many(n int) []api.Slot {
	var l []api.Slot
	for i := range n {
		l = append(l, slot(fmt.Sprintf("many/%05d", i), 0))
	}
	return l
}

// some answers slots in order with all that slots may have.
func some() []api.Slot {
	return []api.Slot{
		{Path: "a", Mode: api.ModeFile},
		{Path: "a.b", Stage: 1, Mode: api.ModeExec, Id: idOf(1), Size: 1, Time: 1<<32 - 1},
		{Path: "a.b", Stage: 2, Mode: api.ModeLink, Id: idOf(2), Size: 1<<32 - 1, Time: 1},
		{Path: "a.b", Stage: 3, Mode: api.ModeFile, Id: idOf(3), Size: 0x01020304, Time: 0x05060708},
		{Path: "a/b", Stage: 2, Mode: api.ModeFile, Id: idOf(4), Size: 9},
		{Path: "a/b/c d", Mode: api.ModeExec, Id: api.Id{31: 1}, Time: 9},
		{Path: "b", Stage: 1, Mode: api.ModeFile, Id: idOf(5)},
		{Path: "b", Stage: 3, Mode: api.ModeFile, Id: idOf(5)},
		{Path: "\xff\n", Mode: api.ModeLink, Id: idOf(6)},
	}
}

// big answers a number in so many bytes.
func big(n, size int) []byte {
	return binary.BigEndian.AppendUint64(nil, uint64(n))[8-size:]
}

// plain answers the bytes of slots by the chapter's words.
func plain(l []api.Slot) []byte {
	p := slices.Concat([]byte{0x44, 0x49, 0x52, 0x43, 0, 0, 0, 2}, big(len(l), 4))
	for _, s := range l {
		one := slices.Concat(make([]byte, 8), big(s.Time, 4), make([]byte, 12), big(s.Mode, 4), make([]byte, 8), big(s.Size, 4), s.Id[:])
		one = slices.Concat(one, big(4096*s.Stage+min(4095, len(s.Path)), 2), []byte(s.Path), []byte{0})
		for len(one)%8 != 0 {
			one = append(one, 0)
		}
		p = append(p, one...)
	}
	return sealed(p)
}

// sealed answers bytes with their sum behind them.
func sealed(p []byte) []byte {
	sum := sha256.Sum256(p)
	return slices.Concat(p, sum[:])
}

// resealed answers bytes with the right sum in the place of their last 32.
func resealed(p []byte) []byte { return sealed(p[:len(p)-32]) }

// plainCheck answers the error of slots by the chapter's words.
func plainCheck(l []api.Slot) api.Errno {
	met := map[api.Errno]int{}
	for _, s := range l {
		if s.Stage < 0 || s.Stage > 3 || s.Size < 0 || s.Size >= 1<<32 || s.Time < 0 || s.Time >= 1<<32 {
			met[api.ErrArg]++
		}
		if !names.Path(s.Path) {
			met[api.ErrName]++
		}
		if s.Mode != api.ModeFile && s.Mode != api.ModeExec && s.Mode != api.ModeLink {
			met[api.ErrForm]++
		}
	}
	if len(l) > 4096 {
		met[api.ErrLong]++
	}
	for i, s := range l {
		for _, other := range l[i+1 : min(len(l), i+5)] {
			if other.Path < s.Path || other.Path == s.Path && (other.Stage <= s.Stage || s.Stage == 0) {
				met[api.ErrForm]++
			}
		}
	}
	for _, e := range []api.Errno{api.ErrArg, api.ErrLong, api.ErrName, api.ErrForm} {
		if met[e] > 0 {
			return e
		}
	}
	return api.OK
}

// strict reads bytes without their sum, and asks of each one on the spot whether it is what the chapter says.
func strict(p []byte) ([]api.Slot, bool) {
	if len(p) < 12 || string(p[:8]) != "DIRC\x00\x00\x00\x02" {
		return nil, false
	}
	count := int(binary.BigEndian.Uint32(p[8:]))
	p = p[12:]
	var l []api.Slot
	for range count {
		if len(p) < 80 || len(l) == 4096 {
			return nil, false
		}
		flags := int(binary.BigEndian.Uint16(p[72:]))
		n := flags % 4096
		size := 75 + n
		for size%8 != 0 {
			size++
		}
		if n > 200 || size > len(p) || flags >= 4*4096 {
			return nil, false
		}
		for _, zeros := range [][]byte{p[:8], p[12:24], p[28:36], p[74+n : size]} {
			if len(bytes.Trim(zeros, "\x00")) != 0 {
				return nil, false
			}
		}
		l = append(l, api.Slot{
			Path: string(p[74 : 74+n]), Stage: flags / 4096, Mode: int(binary.BigEndian.Uint32(p[24:])), Id: api.Id(p[40:72]),
			Size: int(binary.BigEndian.Uint32(p[36:])), Time: int(binary.BigEndian.Uint32(p[8:])),
		})
		p = p[size:]
	}
	return l, len(p) == 0 && plainCheck(l) == api.OK
}

// wantPut fails unless slots are in form, put as the chapter says, and parsed again (P17.2).
func wantPut(t *testing.T, what string, l []api.Slot) {
	t.Helper()
	if e := index.Check(l); e != api.OK {
		t.Errorf("Check, %s: error %d", what, e)
	}
	p, e := index.Put(l)
	if e != api.OK || !bytes.Equal(p, plain(l)) {
		t.Errorf("Put, %s: %.300x, error %d, wanted %.300x", what, p, e, plain(l))
	}
	if back, e := index.Parse(p); e != api.OK || !slices.Equal(back, l) {
		t.Errorf("Parse of what is put, %s: %.300v, error %d, wanted %.300v", what, back, e, l)
	}
}

// wantRefused fails unless Check, Put and Find answer that error alone.
func wantRefused(t *testing.T, what string, l []api.Slot, wanted api.Errno) {
	t.Helper()
	if e := index.Check(l); e != wanted {
		t.Errorf("Check, %s: error %d, wanted %d", what, e, wanted)
	}
	if p, e := index.Put(l); len(p) != 0 || e != wanted {
		t.Errorf("Put, %s: %d bytes, error %d, wanted error %d alone", what, len(p), e, wanted)
	}
	for _, s := range append(slices.Clone(l[:min(len(l), 3)]), slot("none", 0), slot("", 7)) {
		wantNone(t, what, l, s.Path, s.Stage, wanted)
	}
}

// wantFound and wantNone fail unless Find answers that slot, or that error alone.
func wantFound(t *testing.T, what string, l []api.Slot, wanted api.Slot) {
	t.Helper()
	if s, e := index.Find(l, wanted.Path, wanted.Stage); s != wanted || e != api.OK {
		t.Errorf("Find(%q, %d), %s: %v, error %d, wanted %v", wanted.Path, wanted.Stage, what, s, e, wanted)
	}
}

func wantNone(t *testing.T, what string, l []api.Slot, path string, stage int, wanted api.Errno) {
	t.Helper()
	if s, e := index.Find(l, path, stage); s != (api.Slot{}) || e != wanted {
		t.Errorf("Find(%.50q, %d), %s: %v, error %d, wanted error %d alone", path, stage, what, s, e, wanted)
	}
}

// wantParsed fails unless bytes are parsed as these slots, which are put as the same bytes (P17.2).
func wantParsed(t *testing.T, what string, p []byte, wanted []api.Slot) {
	t.Helper()
	l, e := index.Parse(p)
	if e != api.OK || !slices.Equal(l, wanted) {
		t.Errorf("Parse, %s: %.300v, error %d, wanted %.300v", what, l, e, wanted)
	}
	if again, e := index.Put(l); e != api.OK || !bytes.Equal(again, p) {
		t.Errorf("what is parsed, %s, is put as %.300x, error %d, and was %.300x", what, again, e, p)
	}
}

// wantUnparsed fails unless Parse answers that error alone.
func wantUnparsed(t *testing.T, what string, p []byte, wanted api.Errno) {
	t.Helper()
	if l, e := index.Parse(p); len(l) != 0 || e != wanted {
		t.Errorf("Parse, %s: %.300v, error %d, wanted error %d alone", what, l, e, wanted)
	}
}

// wantStrict fails unless Parse answers of at least 32 bytes what the strict reader does, with the sum that they have and
// with the right one; it answers the error that they have with the right one.
func wantStrict(t *testing.T, what string, p []byte) api.Errno {
	t.Helper()
	l, is := strict(p[:len(p)-32])
	whole := resealed(p)
	if !is {
		wantUnparsed(t, what, p, api.ErrForm)
		wantUnparsed(t, what+", with the right sum", whole, api.ErrForm)
		return api.ErrForm
	}
	if !bytes.Equal(p, whole) {
		wantUnparsed(t, what, p, api.ErrSum)
	}
	wantParsed(t, what+", with the right sum", whole, l)
	return api.OK
}

// anySlots answers slots by chance: mostly in form, at times with a fault.
func anySlots(r *rand.Rand) []api.Slot {
	pathsOf := []string{"a", "a.b", "a/b", "a0", "b", "b/c/d", "c", long(200)}
	var l []api.Slot
	for _, path := range slices.Sorted(slices.Values(pathsOf)) {
		stages := [][]int{nil, {0}, {0}, {1, 2, 3}, {1, 3}, {2}, {2, 3}, {3}}[r.Intn(8)]
		for _, stage := range stages {
			l = append(l, api.Slot{Path: path, Stage: stage, Mode: anyMode(r), Id: idOf(r.Intn(50)), Size: r.Intn(1 << 32), Time: r.Intn(1 << 32)})
		}
	}
	if len(l) == 0 || r.Intn(2) == 0 {
		return l
	}
	for range 1 + r.Intn(2) {
		s := &l[r.Intn(len(l))]
		switch r.Intn(7) {
		case 0:
			s.Stage = []int{-1, 0, 1, 2, 3, 4}[r.Intn(6)]
		case 1:
			s.Size = []int{-1, 0, 1<<32 - 1, 1 << 32}[r.Intn(4)]
		case 2:
			s.Time = []int{-1, 0, 1<<32 - 1, 1 << 32}[r.Intn(4)]
		case 3:
			s.Mode = []int{0, api.ModeTree, api.ModeLink, 0o100664, -1}[r.Intn(5)]
		case 4:
			s.Path = []string{"", "a//b", ".git/x", "a", "zz", long(201)}[r.Intn(6)]
		case 5:
			i, j := r.Intn(len(l)), r.Intn(len(l))
			l[i], l[j] = l[j], l[i]
		case 6:
			l = append(l, *s)
		}
	}
	return l
}

// anyMode answers a mode of files, by chance.
func anyMode(r *rand.Rand) int {
	return []int{api.ModeFile, api.ModeExec, api.ModeLink}[r.Intn(3)]
}
