package refs_test

import (
	"fmt"
	"math"
	"slices"
	"testing"

	"codicil/api"
	"codicil/refs"
)

// update is an update's arguments beside the files.
type update struct {
	edits   []refs.Edit
	who     api.Ident
	message string
}

// good answers an update that three() takes.
func good() update {
	return update{[]refs.Edit{expecting(at("refs/heads/c", 9), 3), set(to("HEAD", "refs/heads/d")), set(gone("refs/heads/d"))}, me(1), "m"}
}

// fault is a change of an update that makes it one that is refused.
type fault struct {
	what  string
	errno api.Errno
	make  func(u *update)
}

// manyEdits answers so many edits of unlike names.
func manyEdits(n int) []refs.Edit {
	var list []refs.Edit
	for i := range n {
		list = append(list, set(at(fmt.Sprintf("refs/many/%04d", i), 1)))
	}
	return list
}

// longFaults, nameFaults, formFaults, twiceFaults and clashFaults are those of one error each, and they leave each other as they are
// where they can.
func longFaults() []fault {
	return []fault{
		{"65 edits", api.ErrLong, func(u *update) { u.edits = slices.Concat(u.edits, manyEdits(65)) }},
		{"thousands of edits", api.ErrLong, func(u *update) { u.edits = slices.Concat(u.edits, manyEdits(5000)) }},
		{"a message of 1001 bytes", api.ErrLong, func(u *update) { u.message += letters(1001) }},
		{"a very long message", api.ErrLong, func(u *update) { u.message += letters(2 * api.MaxData) }},
	}
}

func nameFaults() []fault {
	var list []fault
	for _, name := range []string{"", "main", "refs/x", "refs/heads/a.lock", "refs/heads/a b", "head", "refs/heads/" + letters(190)} {
		list = append(list, fault{"an edit of " + name, api.ErrName, func(u *update) { u.edits = append(u.edits, set(at(name, 1))) }})
		if name != "" {
			list = append(list, fault{"a Target named " + name, api.ErrName, func(u *update) { u.edits = append(u.edits, set(to("refs/heads/t", name))) }})
		}
	}
	for _, who := range []api.Ident{{Name: "<"}, {Name: "\n"}, {Email: ">"}, {Email: letters(101)}, {Time: -1}, {Time: 1<<40 + 1}, {Zone: 1440}, {Zone: -1440}, {Zone: math.MinInt}} {
		list = append(list, fault{"who is no ident", api.ErrName, func(u *update) { u.who = who }})
	}
	return list
}

func formFaults() []fault {
	both := refs.Edit{Ref: api.Ref{Name: "refs/heads/t", Id: api.Id{1}, Target: mainName}, Any: true}
	return []fault{
		{"an Id and a Target", api.ErrForm, func(u *update) { u.edits = append(u.edits, both) }},
		{"an Id and a Target in front", api.ErrForm, func(u *update) { u.edits = slices.Insert(u.edits, 0, both) }},
		{"a message with a line feed", api.ErrForm, func(u *update) { u.message += "\n" }},
		{"a message with a byte 0", api.ErrForm, func(u *update) { u.message += "\x00a" }},
	}
}

func twiceFaults() []fault {
	return []fault{
		{"two edits that are the same", api.ErrExists, func(u *update) { u.edits = append(u.edits, set(at("refs/heads/x", 1)), set(at("refs/heads/x", 1))) }},
		{"two edits of one name", api.ErrExists, func(u *update) {
			u.edits = slices.Insert(u.edits, 0, set(at("refs/heads/x", 1)))
			u.edits = append(u.edits, set(gone("refs/heads/x")))
		}},
	}
}

func clashFaults() []fault {
	var list []fault
	for what, e := range map[string]refs.Edit{
		"another Id":                              expecting(at("refs/heads/c", 9), 4),
		"one that is there, expected not to be":   expecting(at("refs/heads/c", 9), 0),
		"one that isn't there, expected to be":    expecting(at("refs/heads/none", 9), 3),
		"one that is gone, expected to be":        expecting(at("refs/heads/a", 9), 1),
		"a Target, expected to be an Id":          expecting(at("HEAD", 9), 5),
		"another Id, one that shall be gone":      expecting(gone("refs/heads/c"), 4),
		"another Id, one that shall be as it was": expecting(at("refs/heads/c", 3), 9),
		"another last byte":                       {Ref: at("refs/heads/c", 9), Expect: api.Id{3, 31: 1}},
	} {
		list = append(list, fault{what, api.ErrClash, func(u *update) {
			u.edits = slices.DeleteFunc(u.edits, func(f refs.Edit) bool { return f.Ref.Name == e.Ref.Name })
			u.edits = append(u.edits, e)
		}})
	}
	return list
}

// P16.2: each error by itself.
func TestRefused(t *testing.T) {
	s := three()
	files := s.files()
	u := good()
	wantUpdated(t, "a good update", s, files, u.who, u.message, u.edits...)
	for _, f := range slices.Concat(longFaults(), nameFaults(), formFaults(), twiceFaults(), clashFaults()) {
		u := good()
		f.make(&u)
		wantRefused(t, f.what, files, u.edits, u.who, u.message, f.errno)
	}
	wantRefused(t, "no edits", files, nil, u.who, u.message, api.ErrArg)
	wantRefused(t, "an empty list of edits", files, []refs.Edit{}, u.who, u.message, api.ErrArg)
	wantRefused(t, "no edits, no files", nil, nil, u.who, u.message, api.ErrArg)
	// Who and message are asked also where no note is made of them.
	wantRefused(t, "who, without a note", nil, []refs.Edit{set(to("HEAD", mainName))}, me(-1), "m", api.ErrName)
	wantRefused(t, "message, without a note", nil, []refs.Edit{set(to("HEAD", mainName))}, me(1), "\n", api.ErrForm)
}

// P16.2: of two errors at one time the one with the least number.
func TestRefusedTwice(t *testing.T) {
	kinds := [][]fault{longFaults(), nameFaults(), formFaults(), twiceFaults(), clashFaults()}
	files := three().files()
	for i, first := range kinds {
		for _, second := range kinds[i+1:] {
			for _, f := range first {
				for _, g := range second {
					// The one that counts is made last, so that it stands whatever the other one did.
					u := good()
					g.make(&u)
					f.make(&u)
					wantRefused(t, f.what+", and "+g.what, files, u.edits, u.who, u.message, f.errno)
				}
			}
		}
	}
	wantRefused(t, "no edits and all else", files, nil, me(-1), letters(1001)+"\n", api.ErrArg)
}

// P16.2: a number above 2^40 is told behind two edits of one name, and ahead of a clash.
func TestRefusedNumber(t *testing.T) {
	s := three()
	s[2].max = 1 << 40
	files := s.files()
	u := good()
	wantRefused(t, "a number above 2^40", files, u.edits, u.who, u.message, api.ErrLimit)
	wantRefused(t, "a number above 2^40, no edits", files, nil, u.who, u.message, api.ErrArg)
	for _, f := range slices.Concat(longFaults(), nameFaults(), formFaults(), twiceFaults()) {
		u := good()
		f.make(&u)
		wantRefused(t, "a number above 2^40, "+f.what, files, u.edits, u.who, u.message, f.errno)
	}
	for _, f := range clashFaults() {
		u := good()
		f.make(&u)
		wantRefused(t, "a number above 2^40, "+f.what, files, u.edits, u.who, u.message, api.ErrLimit)
	}
}

// P16.2: a message of 1000 bytes, and whom and what a note may tell.
func TestNotRefused(t *testing.T) {
	s := three()
	for _, who := range []api.Ident{{}, {Name: letters(100), Email: letters(100), Time: 1 << 40, Zone: 1439}, {Zone: -1439}} {
		for _, message := range []string{"", "m", "\r\t\xff\x01", letters(1000)} {
			wantUpdated(t, "who and message", s, s.files(), who, message, good().edits...)
		}
	}
}

// brimful answers five tables with so many references and notes in all; each table has room for its own.
func brimful(references, notes int) stack {
	s := stack{{nil, nil, 1, 4096}, {nil, nil, 4097, 4097}, {nil, nil, 4098, 4098}, {nil, nil, 4099, 4099}, {nil, nil, 4100, 4100}}
	for i := range references {
		x := &s[0]
		if i >= 4096 {
			x = &s[1]
		}
		x.refs = append(x.refs, at(fmt.Sprintf("refs/many/%04d", i), 1))
	}
	for i := range notes {
		s[0].notes = append(s[0].notes, note("refs/many/0000", 4096-i, 1, 2, 1))
	}
	return s
}

// P16.2, P16.3: reftable.Write's error of the one table comes behind all others; while there is no need of one table, it doesn't come.
func TestTableRefused(t *testing.T) {
	edit := []refs.Edit{set(at(mainName, 9))}
	s := brimful(4095, 4095)
	wantUpdated(t, "MaxEntries in one table", s, s.files(), me(1), "m", edit...)
	s = brimful(4096, 0)
	wantRefused(t, "a reference too many", s.files(), edit, me(1), "m", api.ErrLong)
	wantUpdated(t, "a reference too many, a fifth table", s[:4], s[:4].files(), me(1), "m", edit...)
	wantRefused(t, "a reference too many, and a clash", s.files(), []refs.Edit{expecting(at(mainName, 9), 1)}, me(1), "m", api.ErrClash)
	wantRefused(t, "a reference too many, and a name", s.files(), []refs.Edit{set(at("x", 9))}, me(1), "m", api.ErrName)
	wantUpdated(t, "one goes, one comes", s, s.files(), me(1), "m", append(edit, set(gone("refs/many/0000")))...)
	wantDropped(t, "MaxEntries", s, s.files(), 0)
	s = brimful(4097, 0)
	if list, e := refs.Drop(s.files(), 0); len(list) != 0 || e != api.ErrLong {
		t.Errorf("Drop, a reference too many: %q, error %d", told(list), e)
	}
	s = brimful(0, 4096)
	wantRefused(t, "a note too many", s.files(), edit, me(1), "m", api.ErrLong)
	wantUpdated(t, "no note more", s, s.files(), me(1), "m", set(to("HEAD", mainName)))
	s[1].notes = []api.Note{note("refs/many/0000", 4097, 2, 3, 2)}
	if list, e := refs.Drop(s.files(), 1); len(list) != 0 || e != api.ErrLong {
		t.Errorf("Drop, a note too many: %q, error %d", told(list), e)
	}
	wantDropped(t, "without the old notes", s, s.files(), 2)
}

// P16.2, P16.3: one table that would have more than MaxData bytes.
func TestTableTooLong(t *testing.T) {
	s := stack{{nil, nil, 1, 1}, {nil, nil, 2, 2}, {nil, nil, 3, 3}, {nil, nil, 4, 4}, {nil, nil, 5, 5}}
	for i := range s {
		for j := range 700 {
			s[i].refs = append(s[i].refs, to(fmt.Sprintf("refs/%d/%04d/%s", i, j, letters(180)), "refs/heads/"+letters(180)))
		}
	}
	files := s.files()
	wantRefused(t, "too many bytes", files, []refs.Edit{set(at(mainName, 1))}, me(1), "m", api.ErrLong)
	if list, e := refs.Drop(files, 0); len(list) != 0 || e != api.ErrLong {
		t.Errorf("Drop, too many bytes: %q, error %d", told(list), e)
	}
	wantStack(t, "many bytes", files, s)
}
