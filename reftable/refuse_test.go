package reftable_test

import (
	"math"
	"slices"
	"testing"

	"codicil/api"
)

// good answers a value that may be, with references and notes.
func good() value {
	return value{
		refs:  []api.Ref{to("HEAD", "refs/heads/b"), at("refs/heads/b", 1), gone("refs/heads/c")},
		notes: []api.Note{note("HEAD", 9), note("refs/heads/b", 9), note("refs/heads/b", 7), note("refs/heads/c", 8)},
		min:   7, max: 9,
	}
}

// fault is a change of a value that makes it one that may not be.
type fault struct {
	what  string
	errno api.Errno
	make  func(v *value)
}

// numberFaults, longFaults, nameFaults and formFaults are those of one error each.
func numberFaults() []fault {
	var list []fault
	for what, x := range map[string][2]int{
		"min 0": {0, 9}, "min -1": {-1, 9}, "the least min": {math.MinInt, 9}, "min and max 0": {0, 0},
		"max below min": {7, 6}, "max 0": {1, 0}, "max -1": {1, -1}, "the least max": {1, math.MinInt},
		"max above 2^40": {7, 1<<40 + 1}, "the greatest max": {7, math.MaxInt}, "both above 2^40": {1<<40 + 1, 1<<40 + 1},
	} {
		list = append(list, fault{what, api.ErrArg, func(v *value) { v.min, v.max = x[0], x[1] }})
	}
	return list
}

func longFaults() []fault {
	return []fault{
		{"a message of 1001 bytes", api.ErrLong, func(v *value) { v.notes[0].Message = letters(1001) }},
		{"a last message of 1001 bytes", api.ErrLong, func(v *value) { v.notes[len(v.notes)-1].Message = letters(1001) }},
		{"a long message", api.ErrLong, func(v *value) { v.notes[1].Message = letters(1 << 20) }},
		{"a reference too many", api.ErrLong, func(v *value) { v.refs = manyRefs(4097, apartName) }},
		{"a note too many", api.ErrLong, func(v *value) { v.notes = slices.Repeat(v.notes[:1], 4097) }},
	}
}

func nameFaults() []fault {
	var list []fault
	for _, name := range []string{"", "main", "refs/x", "refs/heads/a.lock", "refs/heads/a b", "refs/heads/\xff", "refs/heads/a\x00", "head", "refs/heads/" + letters(190)} {
		list = append(list,
			fault{"a reference named " + name, api.ErrName, func(v *value) { v.refs[0].Name = name }},
			fault{"a last reference named " + name, api.ErrName, func(v *value) { v.refs[len(v.refs)-1].Name = name }},
			fault{"a note named " + name, api.ErrName, func(v *value) { v.notes[0].Name = name }},
			fault{"a last note named " + name, api.ErrName, func(v *value) { v.notes[len(v.notes)-1].Name = name }})
		if name != "" {
			list = append(list, fault{"a Target named " + name, api.ErrName, func(v *value) { v.refs[0].Target = name }},
				fault{"a last Target named " + name, api.ErrName, func(v *value) { v.refs[len(v.refs)-1].Target = name }})
		}
	}
	for _, who := range []api.Ident{{Name: "<"}, {Name: "\n"}, {Email: ">"}, {Email: "\x00"}, {Name: letters(101)}, {Email: letters(101)}, {Time: -1}, {Time: 1<<40 + 1}, {Time: math.MinInt}, {Zone: 1440}, {Zone: -1440}, {Zone: 65536}, {Zone: math.MaxInt}} {
		list = append(list, fault{"who is no ident", api.ErrName, func(v *value) { v.notes[0].Who = who }},
			fault{"a last who is no ident", api.ErrName, func(v *value) { v.notes[len(v.notes)-1].Who = who }})
	}
	return list
}

func formFaults() []fault {
	list := []fault{
		{"references that are the same", api.ErrForm, func(v *value) { v.refs[2].Name = v.refs[1].Name }},
		{"references that fall", api.ErrForm, func(v *value) { v.refs[0].Name = "refs/z/z" }},
		{"references that fall at the end", api.ErrForm, func(v *value) { v.refs[2].Name = "HEAD" }},
		{"an Id and a Target", api.ErrForm, func(v *value) { v.refs[0].Id = api.Id{31: 1} }},
		{"a Target and an Id", api.ErrForm, func(v *value) { v.refs[1].Target = "HEAD" }},
		{"notes that fall", api.ErrForm, func(v *value) { v.notes[0].Name = "refs/z/z" }},
		{"notes that fall at the end", api.ErrForm, func(v *value) { v.notes[3].Name = "HEAD" }},
		{"the same Index", api.ErrForm, func(v *value) { v.notes[2].Index = 9 }},
		{"an Index that rises", api.ErrForm, func(v *value) { v.notes[1].Index, v.notes[2].Index = 7, 8 }},
	}
	for _, index := range []int{6, 10, 0, -1, math.MinInt, math.MaxInt} {
		list = append(list, fault{"an Index outside", api.ErrForm, func(v *value) { v.notes[0].Index = index }},
			fault{"a last Index outside", api.ErrForm, func(v *value) { v.notes[3].Index = index }})
	}
	for _, message := range []string{"\n", "\x00", "a\n", "a\x00b", "\na", letters(999) + "\n"} {
		list = append(list, fault{"a message with a line feed or a byte 0", api.ErrForm, func(v *value) { v.notes[0].Message = message }},
			fault{"such a last message", api.ErrForm, func(v *value) { v.notes[3].Message = message }})
	}
	return list
}

// P15.1: each error by itself.
func TestRefused(t *testing.T) {
	wantWritten(t, "a good value", good())
	for _, f := range slices.Concat(numberFaults(), longFaults(), nameFaults(), formFaults()) {
		v := good()
		f.make(&v)
		wantRefused(t, f.what, v, f.errno)
	}
	for _, v := range []value{{}, {refs: good().refs}, {notes: good().notes}} {
		wantRefused(t, "no numbers", v, api.ErrArg)
	}
}

// P15.1: of two errors at one time the one with the least number.
func TestRefusedTwice(t *testing.T) {
	kinds := [][]fault{numberFaults(), longFaults(), nameFaults(), formFaults()}
	for i, first := range kinds {
		for _, second := range kinds[i+1:] {
			for _, f := range first {
				for _, g := range second {
					// The one that counts is made last, so that it stands whatever the other one did.
					v := good()
					g.make(&v)
					f.make(&v)
					wantRefused(t, f.what+", and "+g.what, v, f.errno)
				}
			}
		}
	}
	v := good()
	v.min, v.notes[0].Message, v.refs[0].Name, v.notes[0].Index = 0, letters(1001), "", 10
	wantRefused(t, "all at one time", v, api.ErrArg)
	v.min = 7
	wantRefused(t, "all but the numbers", v, api.ErrLong)
	v.notes[0].Message = "\n"
	wantRefused(t, "a name and the form", v, api.ErrName)
	v.refs[0].Name = "HEAD"
	wantRefused(t, "the form", v, api.ErrForm)
}

// P15.1: what is beside these errors may be.
func TestNotRefused(t *testing.T) {
	for what, change := range map[string]func(v *value){
		"a message of 1000 bytes":          func(v *value) { v.notes[0].Message = letters(1000) },
		"no message":                       func(v *value) { v.notes[0].Message = "" },
		"a Target that is its own name":    func(v *value) { v.refs[0].Target = "HEAD" },
		"an Index of min":                  func(v *value) { v.notes[0].Index = 7 },
		"an Index that two names have":     func(v *value) { v.notes[2].Index, v.notes[3].Index = 8, 8 },
		"a name of MaxPath bytes":          func(v *value) { v.refs[2].Name = "refs/z/" + letters(193) },
		"a note's name of MaxPath bytes":   func(v *value) { v.notes[3].Name = "refs/z/" + letters(193) },
		"a Target of MaxPath bytes":        func(v *value) { v.refs[0].Target = "refs/z/" + letters(193) },
		"notes of no reference":            func(v *value) { v.refs = nil },
		"one Id for all":                   func(v *value) { v.refs[2].Id = v.refs[1].Id },
		"min 1":                            func(v *value) { v.min = 1 },
		"max 2^40":                         func(v *value) { v.max = 1 << 40 },
		"Old and New are the same":         func(v *value) { v.notes[0].Old = v.notes[0].New },
		"a message of all bytes but these": func(v *value) { v.notes[0].Message = others() },
	} {
		v := good()
		change(&v)
		wantWritten(t, what, v)
	}
}

// others answers a text with each byte but a line feed and 0.
func others() string {
	var p []byte
	for b := 1; b < 256; b++ {
		if b != '\n' {
			p = append(p, byte(b))
		}
	}
	return string(p)
}
