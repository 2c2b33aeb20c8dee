package reftable_test

import (
	"bytes"
	stdzlib "compress/zlib"
	"fmt"
	"math/rand"
	"slices"
	"testing"

	"codicil/api"
)

// wantStrict fails unless Read answers what strictly does, and writes what it read as it was (P15.2, P3); it tells whether it was read.
func wantStrict(t *testing.T, what string, p []byte) bool {
	t.Helper()
	v, e := read(p)
	wanted, is := strictly(p)
	if is != (e == api.OK) || !v.same(wanted) || !is && e != api.ErrForm {
		t.Fatalf("Read, %s: %.300v, error %d, wanted %.300v, %v", what, fmt.Sprint(v), e, fmt.Sprint(wanted), is)
	}
	if !is {
		return false
	}
	if again, e := v.write(); e != api.OK || !bytes.Equal(again, p) {
		t.Fatalf("%s: what is read is written as other bytes, error %d", what, e)
	}
	return true
}

// longer answers a value with more than one restart, and names of which some are each other's beginnings.
func longer() value {
	v := value{min: 3, max: 1 << 20}
	for i := range 18 {
		v.refs = append(v.refs, []api.Ref{gone(closeName(i)), at(closeName(i), byte(i)), to(closeName(i), "refs/heads/b")}[i%3])
		v.notes = append(v.notes, note("refs/heads/a", 1<<20-i))
	}
	v.notes = append(v.notes, note("refs/heads/aa", 300), note("refs/heads/aa", 299), note("refs/heads/ab", 5))
	return v
}

// P15.2: one byte changed at each place; an Id's byte may be another one, what tells the form may not.
func TestReadByteChanged(t *testing.T) {
	for what, v := range map[string]value{"small": good(), "references": {refs: good().refs, min: 1, max: 1}, "notes": {notes: good().notes, min: 7, max: 9}, "neither": {min: 1, max: 1}, "long": longer()} {
		p := wantWritten(t, what, v)
		count := 0
		for i := range p {
			for _, turn := range []byte{1, 2, 4, 8, 16, 32, 64, 128, 255, 'r' ^ 'g'} {
				q := bytes.Clone(p)
				q[i] ^= turn
				if wantStrict(t, fmt.Sprintf("%s, byte %d turned by %x", what, i, turn), q) {
					count++
					if i < 28 || i >= len(p)-72 {
						t.Errorf("%s: byte %d of %d may be another one", what, i, len(p))
					}
				}
			}
		}
		if (count > 100) != (len(v.refs) > 0) {
			t.Errorf("%s: %d other tables were read", what, count)
		}
	}
}

// P15.1: header and footer changed together, with a sum that fits.
func TestReadFrameChanged(t *testing.T) {
	v := good()
	p := v.plain()
	for i := range 28 {
		for b := range 256 {
			q := bytes.Clone(p)
			q[i] = byte(b)
			end := len(p) - 72
			q[end+i] = byte(b)
			q = append(q[:end], sealed(q[end:len(q)-4])...)
			wantStrict(t, "another header", q)
		}
	}
	for i := 28; i < 68; i++ {
		for b := 1; b < 256; b++ {
			q := bytes.Clone(p)
			end := len(p) - 72
			q[end+i] ^= byte(b)
			q = append(q[:end], sealed(q[end:len(q)-4])...)
			wantUnread(t, "another footer", q, api.ErrForm)
		}
	}
}

// P15.1: the numbers that a header may have.
func TestReadNumbers(t *testing.T) {
	for _, x := range []struct {
		least, most uint64
		is          bool
	}{
		{1, 1, true}, {1, 1 << 40, true}, {1 << 40, 1 << 40, true}, {2, 3, true},
		{0, 0, false}, {0, 1, false}, {2, 1, false}, {1, 1<<40 + 1, false}, {1<<40 + 1, 1<<40 + 1, false}, {1, 1 << 63, false}, {1 << 63, 1 << 63, false}, {1<<64 - 1, 1, false}, {1, 1<<64 - 1, false}, {1<<64 - 1, 1<<64 - 1, false},
	} {
		if p := frame(int(x.least), int(x.most), nil, nil); wantStrict(t, fmt.Sprint(x), p) != x.is {
			t.Errorf("numbers %v", x)
		}
	}
}

// P15.1: bytes cut off at either end, and bytes more at each place.
func TestReadCut(t *testing.T) {
	for what, v := range map[string]value{"small": good(), "references": {refs: good().refs, min: 1, max: 1}, "notes": {notes: good().notes, min: 7, max: 9}, "neither": {min: 1, max: 1}} {
		p := v.plain()
		for n := range p {
			wantUnread(t, what+", cut", p[:n:n], api.ErrForm)
			wantUnread(t, what+", cut at the front", p[n+1:], api.ErrForm)
			wantUnread(t, what+", a byte less", slices.Delete(bytes.Clone(p), n, n+1), api.ErrForm)
			for _, b := range []byte{0, 1, 'r', 'g', 255} {
				wantUnread(t, what+", a byte more", slices.Insert(bytes.Clone(p), n, b), api.ErrForm)
			}
		}
		wantUnread(t, what+", a byte behind", append(bytes.Clone(p), 0), api.ErrForm)
		wantUnread(t, what+", twice", append(bytes.Clone(p), p...), api.ErrForm)
	}
}

// P15.1: the notes wrapped in another way.
func TestReadWrappedOtherwise(t *testing.T) {
	v := longer()
	refs, right := v.blocks()
	data := v.noteBody().bytes()
	front := right[:4]
	if !wantStrict(t, "the way 1", frame(v.min, v.max, refs, slices.Concat(front, wrapped(data, 1)))) {
		t.Fatal("the notes' block is not what it should be")
	}
	streams := map[string][]byte{"the way 0": wrapped(data, 0), "a byte behind": append(wrapped(data, 1), 0), "a stream behind": append(wrapped(data, 1), wrapped(data, 1)...), "no stream": nil, "bytes as they are": data}
	for level := stdzlib.HuffmanOnly; level <= stdzlib.BestCompression; level++ {
		var out bytes.Buffer
		w, _ := stdzlib.NewWriterLevel(&out, level)
		w.Write(data)
		w.Close()
		streams[fmt.Sprintf("the library's level %d", level)] = out.Bytes()
	}
	head := wrapped(data, 1)
	head[1] = 0x9c
	streams["another level in the head"] = head
	sum := wrapped(data, 1)
	sum[len(sum)-1] ^= 1
	streams["another sum"] = sum
	for what, stream := range streams {
		wantUnread(t, what, frame(v.min, v.max, refs, slices.Concat(front, stream)), api.ErrForm)
		wantUnread(t, what+", without references", frame(v.min, v.max, nil, slices.Concat(front, stream)), api.ErrForm)
	}
	for n := range 1 << 12 {
		if n != 4+len(data) {
			wantUnread(t, "another count", frame(v.min, v.max, nil, slices.Concat([]byte{'g'}, big(uint64(n), 3), wrapped(data, 1))), api.ErrForm)
		}
	}
}

// P15.1: records and restarts that tell the same in another way.
func TestReadLaidOtherwise(t *testing.T) {
	v := longer()
	_, notes := v.blocks()
	for what, change := range map[string]func(b *body){
		"restarts at multiples of 15": func(b *body) { b.every = 15 },
		"restarts at multiples of 17": func(b *body) { b.every = 17 },
		"restarts everywhere":         func(b *body) { b.every = 1 },
		"one restart":                 func(b *body) { b.every = 100 },
		"one restart more":            func(b *body) { b.restarts = []int{5} },
		"less in common":              func(b *body) { b.less = 1 },
		"nothing in common":           func(b *body) { b.less = 300 },
		"a restart more counted":      func(b *body) { b.counted = 1 },
		"a restart less counted":      func(b *body) { b.counted = -1 },
		"many restarts counted":       func(b *body) { b.counted = 65000 },
		"places from elsewhere":       func(b *body) { b.first++ },
		"places from the front":       func(b *body) { b.first = 0 },
		"no records":                  func(b *body) { b.list = nil },
		"a record twice":              func(b *body) { b.list = slices.Insert(b.list, 1, b.list[0]) },
		"records that fall":           func(b *body) { slices.Reverse(b.list) },
		"another way":                 func(b *body) { b.list[1].way = 2 },
		"the way 7":                   func(b *body) { b.list[1].way = 7 },
		"bytes more in a record":      func(b *body) { b.list[1].rest = append(b.list[1].rest, 0) },
		"bytes less in a record":      func(b *body) { b.list[1].rest = b.list[1].rest[:len(b.list[1].rest)-1] },
		"no bytes in a record":        func(b *body) { b.list[1].rest = nil },
		"an empty key":                func(b *body) { b.list[0].key = "" },
		"a key that is no name":       func(b *body) { b.list[0].key = "refs" },
		"a long key":                  func(b *body) { b.list[0].key = letters(300) },
	} {
		list := v.refBody()
		change(&list)
		wantUnread(t, "references: "+what, frame(v.min, v.max, refBlock(list.bytes()), notes), api.ErrForm)
		wantUnread(t, "references alone: "+what, frame(v.min, v.max, refBlock(list.bytes()), nil), api.ErrForm)
		list = v.noteBody()
		change(&list)
		wantUnread(t, "notes: "+what, frame(v.min, v.max, nil, noteBlock(list.bytes())), api.ErrForm)
	}
}

// P15.1: records that tell what a table may not say.
func TestReadFaults(t *testing.T) {
	for _, f := range slices.Concat(nameFaults(), formFaults()) {
		v := good()
		f.make(&v)
		// An Id beside a Target has no room in a record, and a Zone has just two bytes: there another value is read.
		p := v.plain()
		if back, _ := read(p); wantStrict(t, f.what, p) && back.same(v) {
			t.Errorf("Read, %s: it is read", f.what)
		}
	}
	for _, f := range longFaults()[:2] {
		v := good()
		f.make(&v)
		wantUnread(t, f.what, v.plain(), api.ErrForm)
	}
	v := value{refs: manyRefs(4097, apartName), min: 1, max: 1}
	wantUnread(t, "a reference too many", v.plain(), api.ErrForm)
	v = value{notes: manyNotes(4097, oneName), min: 1, max: 4097}
	wantUnread(t, "a note too many", v.plain(), api.ErrForm)
}

// P15.1: the order and the letters of blocks.
func TestReadBlocks(t *testing.T) {
	v := good()
	refs, notes := v.blocks()
	empty := body{first: 32, every: 16}.bytes()
	for what, p := range map[string][]byte{
		"notes first":               frame(7, 9, notes, refs),
		"references twice":          frame(7, 9, slices.Concat(refs, refs), notes),
		"notes twice":               frame(7, 9, refs, slices.Concat(notes, notes)),
		"a block of no references":  frame(7, 9, refBlock(empty), nil),
		"a block without bytes":     frame(7, 9, refBlock(nil), nil),
		"a block of no notes":       frame(7, 9, nil, noteBlock(empty)),
		"an empty stream":           frame(7, 9, nil, noteBlock(nil)),
		"another letter":            frame(7, 9, append([]byte{'R'}, refs[1:]...), nil),
		"another letter of notes":   frame(7, 9, nil, append([]byte{'G'}, notes[1:]...)),
		"a letter alone":            frame(7, 9, []byte{'r'}, nil),
		"a letter of notes alone":   frame(7, 9, nil, []byte{'g'}),
		"a size cut":                frame(7, 9, []byte{'r', 0, 0}, nil),
		"a block of size 0":         frame(7, 9, []byte{'r', 0, 0, 0}, nil),
		"a block of size 31":        frame(7, 9, []byte{'r', 0, 0, 31}, nil),
		"a block of size 32":        frame(7, 9, []byte{'r', 0, 0, 32}, nil),
		"a block of the most bytes": frame(7, 9, []byte{'r', 255, 255, 255}, nil),
		"a byte behind references":  frame(7, 9, append(bytes.Clone(refs), 0), nil),
		"100 bytes 0":               make([]byte, 100),
		"MaxData bytes 0":           make([]byte, api.MaxData),
	} {
		wantUnread(t, what, p, api.ErrForm)
	}
	for _, n := range []int{api.MaxData + 1, 2 * api.MaxData} {
		wantUnread(t, "more than MaxData bytes", make([]byte, n), api.ErrLong)
		wantUnread(t, "a table and more than MaxData bytes", append(v.plain(), make([]byte, n)...), api.ErrLong)
	}
}

// P1: few bytes may tell very many long keys; they are no table, and that is soon found.
func TestReadManyLongKeys(t *testing.T) {
	key := letters(500000)
	data := slices.Concat(span(0), span(uint64(8*len(key))), []byte(key), []byte{0})
	data = append(data, bytes.Repeat(append(span(500000), 0, 0), 80000)...)
	data = append(data, 0, 0, 32, 0, 1)
	wantUnread(t, "long keys", frame(1, 1, refBlock(data), nil), api.ErrForm)
	wantUnread(t, "long keys of notes", frame(1, 1, nil, noteBlock(data)), api.ErrForm)
	short := bytes.Repeat([]byte{0, 0, 0}, 300000)
	wantUnread(t, "many records", frame(1, 1, refBlock(append(short, 0, 0, 32, 0, 1)), nil), api.ErrForm)
}

// P15.2: numbers that are no number of the kind that is asked.
func TestReadSpans(t *testing.T) {
	great := bytes.Repeat([]byte{255}, 9)
	v := good()
	for what, number := range map[string][]byte{
		"2^64 and more": slices.Concat(great, great, []byte{0}), "near 2^64": append(bytes.Clone(great), 0x7e), "a span without its end": great, "a longer spelling": {0x80, 0x04}, "nothing": {},
	} {
		for i := range 3 {
			list := v.refBody()
			parts := [3][]byte{span(0), span(8 * 12), {0}}
			parts[i] = number
			data := slices.Concat(parts[0], parts[1], []byte("refs/heads/a"), parts[2], []byte{0, 0, 32, 0, 1})
			wantStrict(t, what, frame(7, 9, refBlock(data), nil))
			wantUnread(t, what, frame(7, 9, refBlock(data), nil), api.ErrForm)
			list.list[0].rest = slices.Concat([]byte{0}, number, []byte("refs/heads/b"))
			wantUnread(t, what+", a Target's", frame(7, 9, refBlock(list.bytes()), nil), api.ErrForm)
		}
		for i := range 4 {
			parts := [4][]byte{text("A"), text("b"), span(5), text("done")}
			parts[i] = number
			list := v.noteBody()
			ids := make([]byte, 64)
			list.list[0].rest = slices.Concat(ids, parts[0], parts[1], parts[2], []byte{0, 0}, parts[3])
			p := frame(7, 9, nil, noteBlock(list.bytes()))
			if is := wantStrict(t, what+", a note's", p); is && len(number) != 2 {
				t.Errorf("%s, a note's %d: it is read", what, i)
			}
		}
	}
}

// P15.2, P1: bytes by chance, made from tables by a few changes within their blocks.
func TestReadByChance(t *testing.T) {
	r := rand.New(rand.NewSource(15))
	seen := map[bool]int{}
	for range 30000 {
		v := good()
		if r.Intn(8) == 0 {
			v = longer()
		}
		lists := [2][]byte{v.refBody().bytes(), v.noteBody().bytes()}
		for range 1 + r.Intn(3) {
			p := &lists[r.Intn(2)]
			i := r.Intn(len(*p))
			switch r.Intn(4) {
			case 0:
				*p = slices.Delete(*p, i, i+1)
			case 1:
				*p = slices.Insert(*p, i, byte(r.Intn(256)))
			default:
				(*p)[i] = []byte{0, 1, byte(r.Intn(256)), (*p)[i] + 1, (*p)[i] - 1}[r.Intn(5)]
			}
		}
		refs, notes := refBlock(lists[0]), noteBlock(lists[1])
		switch r.Intn(3) {
		case 0:
			refs = nil
		case 1:
			notes = nil
		}
		seen[wantStrict(t, "by chance", frame(v.min, v.max, refs, notes))]++
	}
	if seen[true] < 3000 || seen[false] < 3000 {
		t.Errorf("tables and others: %v", seen)
	}
}
