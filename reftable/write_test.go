package reftable_test

import (
	"bytes"
	stdzlib "compress/zlib"
	"encoding/hex"
	"fmt"
	"io"
	"math/rand"
	"slices"
	"strings"
	"testing"

	"codicil/api"
	"codicil/reftable"
)

// P15.1: the chapter's examples.
func TestExamples(t *testing.T) {
	p, e := reftable.Write(nil, nil, 1, 1)
	if len(p) != 100 || e != api.OK {
		t.Errorf("Write(none, none, 1, 1): %d bytes, error %d", len(p), e)
	}
	wantUnread(t, "nothing", nil, api.ErrForm)
	wantUnread(t, "no bytes", []byte{}, api.ErrForm)
	p = wantWritten(t, "gone", value{refs: []api.Ref{gone("refs/heads/a")}, min: 1, max: 1})
	wantHex(t, "the block", p[28:len(p)-72], "72 000034"+" 00 60 "+hex.EncodeToString([]byte("refs/heads/a"))+" 00"+" 000020 0001")
}

// P15.1: bytes that were made by hand.
func TestBytesByHand(t *testing.T) {
	p, _ := reftable.Write(nil, nil, 2, 1<<40)
	front := "52454654 02 000000 0000000000000002 0000010000000000 73323536"
	none := " 0000000000000000"
	wantHex(t, "no references and no notes", p, front+front+none+none+none+none+none+"5cf779bc")

	main, name := api.Id{0xaa, 31: 0xbb}, hex.EncodeToString([]byte("refs/heads/main"))
	p, _ = reftable.Write([]api.Ref{{Name: "HEAD", Target: "refs/heads/main"}, {Name: "refs/heads/main", Id: main}, {Name: "refs/heads/man"}}, nil, 1, 1)
	wantHex(t, "three references", p[28:len(p)-72], "72 000072"+
		" 00 23 48454144 00 0f"+name+
		" 00 79"+name+" 00 aa"+strings.Repeat("00", 30)+"bb"+
		" 0d 08 6e 00"+
		" 000020 0001")

	n := api.Note{Name: "refs/heads/main", Index: 258, Old: main, New: api.Id{0xcc}, Who: api.Ident{Name: "A", Email: "b@c", Time: 300, Zone: -90}, Message: "one"}
	m := n
	m.Index, m.Who.Zone, m.Message = 257, 60, ""
	p, _ = reftable.Write(nil, []api.Note{n, m}, 257, 258)
	ids := "aa" + strings.Repeat("00", 30) + "bb cc" + strings.Repeat("00", 31)
	wantHex(t, "two notes, unwrapped", unwrapped(t, p[32:len(p)-72]), ""+
		"00 8041"+name+"00 fffffffffffffefd"+ids+" 01 41 03 624063 812c ffa6 03 6f6e65"+
		" 17 09 fe"+ids+" 01 41 03 624063 812c 003c 00"+
		" 000004 0001")
	wantHex(t, "two notes' front", p[28:32], "67 0000c0")
	wantHex(t, "the place of the notes", p[len(p)-20:len(p)-12], "000000000000001c")
}

// unwrapped answers what the library reads of a stream.
func unwrapped(t *testing.T, p []byte) []byte {
	t.Helper()
	r, err := stdzlib.NewReader(bytes.NewReader(p))
	if err != nil {
		t.Fatal(err)
	}
	q, err := io.ReadAll(r)
	if err != nil {
		t.Fatal(err)
	}
	return q
}

// P15.1: references alone, notes alone, both, and neither.
func TestBlocks(t *testing.T) {
	refs := []api.Ref{to("HEAD", "refs/heads/main"), at("refs/heads/main", 1), gone("refs/heads/old")}
	notes := []api.Note{note("HEAD", 7), note("HEAD", 6), note("refs/heads/main", 7)}
	for what, v := range map[string]value{
		"references": {refs: refs, min: 5, max: 8},
		"notes":      {notes: notes, min: 5, max: 8},
		"both":       {refs: refs, notes: notes, min: 5, max: 8},
		"neither":    {min: 5, max: 8},
	} {
		p := wantWritten(t, what, v)
		place := p[len(p)-20 : len(p)-12]
		switch {
		case len(v.notes) == 0:
			wantHex(t, what, place, "0000000000000000")
		case p[place[7]] != 'g' || len(v.refs) == 0 && place[7] != 28:
			t.Errorf("%s: the notes' block isn't at %x", what, place)
		}
		q, e := reftable.Write(append([]api.Ref{}, v.refs...), append([]api.Note{}, v.notes...), 5, 8)
		if !bytes.Equal(p, q) || e != api.OK {
			t.Errorf("%s: empty lists are not as nil ones", what)
		}
	}
}

// manyRefs and manyNotes answer so many, with names that have much in common, or nothing but their beginning.
func manyRefs(n int, name func(i int) string) []api.Ref {
	var list []api.Ref
	for i := range n {
		list = append(list, []api.Ref{gone(name(i)), at(name(i), byte(i)), to(name(i), "refs/heads/main")}[i%3])
	}
	return list
}

func manyNotes(n int, name func(i int) string) []api.Note {
	var list []api.Note
	for i := range n {
		list = append(list, note(name(i), n-i))
	}
	return list
}

func closeName(i int) string { return fmt.Sprintf("refs/heads/%s%04d", letters(150), i) }

func apartName(i int) string { return fmt.Sprintf("refs/%04d/%s", i, letters(i%30+1)) }

func oneName(int) string { return "refs/heads/main" }

// P15.1: restarts are the records at multiples of 16.
func TestRestarts(t *testing.T) {
	for _, n := range []int{1, 2, 15, 16, 17, 31, 32, 33, 48, 49, 500} {
		for what, name := range map[string]func(int) string{"much in common": closeName, "little in common": apartName} {
			refs, notes := manyRefs(n, name), manyNotes(n, name)
			p := wantWritten(t, what, value{refs: refs, notes: notes, min: 1, max: n})
			restarts := (n + 15) / 16
			end := int(p[29])<<16 | int(p[30])<<8 | int(p[31])
			if int(p[end-2])<<8|int(p[end-1]) != restarts || p[end] != 'g' {
				t.Errorf("%d references, %s: %x restarts, behind the block %x", n, what, p[end-2:end], p[end])
			}
			wantWritten(t, what, value{refs: refs, min: 1, max: 1})
			wantWritten(t, what, value{notes: notes, min: 1, max: n})
		}
		wantWritten(t, "one name", value{notes: manyNotes(n, oneName), min: 1, max: n})
	}
}

// P15.1: keys of which one is the beginning of another, or that have nothing in common.
func TestKeysInCommon(t *testing.T) {
	list := []string{"HEAD", "refs/a/b", "refs/a/b!", "refs/a/b/c", "refs/a/b/c/d", "refs/a/bb", "refs/a/" + letters(130), "refs/a/" + letters(131), "refs/b/a", "refs/b/" + letters(193)}
	slices.Sort(list)
	var v value
	for i, name := range list {
		v.refs = append(v.refs, at(name, byte(i+1)))
		v.notes = append(v.notes, note(name, 1<<40), note(name, 1<<40-1), note(name, 256), note(name, 255), note(name, 1))
	}
	v.min, v.max = 1, 1<<40
	wantWritten(t, "keys", v)
}

// P15.1: the least and the greatest numbers.
func TestNumbers(t *testing.T) {
	for _, x := range [][2]int{{1, 1}, {1, 2}, {1, 1 << 40}, {1 << 40, 1 << 40}, {1<<40 - 1, 1 << 40}, {255, 256}, {1 << 32, 1<<32 + 1}} {
		v := value{notes: []api.Note{note("HEAD", x[1])}, min: x[0], max: x[1]}
		if x[0] < x[1] {
			v.notes = append(v.notes, note("HEAD", x[0]))
		}
		wantWritten(t, "numbers", v)
	}
}

// P15.1: whoever a note may name, and whatever it may say.
func TestNoteValues(t *testing.T) {
	for _, who := range []api.Ident{
		{}, {Name: letters(100), Email: letters(100), Time: 1 << 40, Zone: 1439}, {Zone: -1439}, {Zone: -1}, {Zone: 1}, {Zone: 255}, {Zone: -256}, {Time: 127}, {Time: 128}, {Time: 16511}, {Time: 16512}, {Time: 1<<40 - 1}, {Name: "\xff\x01", Email: " "},
	} {
		for _, message := range []string{"", "x", "\r\t\xff\x01", letters(127), letters(128), letters(1000)} {
			n := note("refs/heads/a", 3)
			n.Who, n.Message = who, message
			wantWritten(t, "a note", value{notes: []api.Note{n}, min: 3, max: 3})
		}
	}
	n := note("HEAD", 1)
	n.Old, n.New = api.Id{}, api.Id{}
	wantWritten(t, "no ids", value{notes: []api.Note{n, note("refs/heads/a", 1)}, min: 1, max: 1})
}

// P15.1: MaxEntries of both.
func TestMostEntries(t *testing.T) {
	v := value{refs: manyRefs(4096, apartName), notes: manyNotes(4096, apartName), min: 1, max: 4096}
	wantWritten(t, "MaxEntries", v)
	v.notes = manyNotes(4096, oneName)
	wantWritten(t, "MaxEntries of one name", v)
	v.refs, v.notes = manyRefs(4097, apartName), nil
	wantRefused(t, "a reference too many", v, api.ErrLong)
	v.refs, v.notes, v.max = nil, manyNotes(4097, apartName), 4097
	wantRefused(t, "a note too many", v, api.ErrLong)
}

// P15.1: MaxData bytes, and one more: of references.
func TestMostBytes(t *testing.T) {
	wide := func(i int) string { return fmt.Sprintf("refs/%04d/%s", i, letters(190)) }
	v := value{min: 1, max: 1}
	for i := range 3000 {
		v.refs = append(v.refs, to(wide(i), "refs/heads/"+letters(150)))
	}
	v.notes = []api.Note{note("HEAD", 1)}
	// The counts of Targets from 128 bytes on have two bytes, so each letter less is one byte less.
	over := len(v.plain()) - api.MaxData
	for i := 0; over > 0; i++ {
		less := min(over, 30)
		v.refs[i].Target = "refs/heads/" + letters(150-less)
		over -= less
	}
	if p := wantWritten(t, "MaxData bytes", v); len(p) != api.MaxData {
		t.Fatalf("%d bytes", len(p))
	}
	v.refs[2999].Target += "a"
	if n := len(v.plain()); n != api.MaxData+1 {
		t.Fatalf("%d bytes", n)
	}
	wantRefused(t, "one byte more", v, api.ErrLong)
	wantUnread(t, "one byte more", v.plain(), api.ErrLong)
}

// P15.1: notes that zlib.Wrap just takes, and those with one byte more.
func TestMostWrapped(t *testing.T) {
	v := value{min: 1, max: 4096}
	for i := range 1000 {
		n := note(apartName(i), 1)
		n.Message = letters(1000)
		v.notes = append(v.notes, n)
	}
	over := len(v.noteBody().bytes()) - api.MaxData
	for i := 0; over > 0; i++ {
		less := min(over, 800)
		v.notes[i].Message = letters(1000 - less)
		over -= less
	}
	if n := len(v.noteBody().bytes()); n != api.MaxData {
		t.Fatalf("%d bytes ahead of wrapping", n)
	}
	wantWritten(t, "MaxData bytes ahead of wrapping", v)
	v.notes[0].Message += "a"
	wantRefused(t, "one byte more ahead of wrapping", v, api.ErrLong)
}

// P15.1: notes are wrapped in the way 1 also where that is the longer one.
func TestLongerWay(t *testing.T) {
	r := rand.New(rand.NewSource(1))
	message := make([]byte, 1000)
	for i := range message {
		message[i] = byte(144 + r.Intn(112))
	}
	n := note("HEAD", 1)
	n.Message = string(message)
	v := value{notes: []api.Note{n}, min: 1, max: 1}
	data := v.noteBody().bytes()
	if len(wrapped(data, 1)) <= len(wrapped(data, 2)) {
		t.Fatal("the way 1 isn't the longer one")
	}
	wantWritten(t, "the longer way", v)
	shorter := slices.Concat([]byte{'g'}, big(uint64(4+len(data)), 3), wrapped(data, 2))
	wantUnread(t, "the shorter way", frame(1, 1, nil, shorter), api.ErrForm)
}
