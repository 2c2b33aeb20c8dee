package reftable_test

import (
	"bytes"
	"encoding/binary"
	"hash/crc32"
	"strings"

	"codicil/api"
	"codicil/names"
	"codicil/zlib"
)

// strict reads a table and asks of each byte on the spot whether it is what the chapter says; where one isn't, it panics
// with a fault.
type strict struct {
	p  []byte
	at int
}

type unlike struct{}

// need panics unless something holds.
func need(holds bool) {
	if !holds {
		panic(unlike{})
	}
}

func (s *strict) take(n int) []byte {
	need(n >= 0 && n <= len(s.p)-s.at)
	s.at += n
	return s.p[s.at-n : s.at]
}

func (s *strict) big(n int) uint64 {
	return binary.BigEndian.Uint64(append(make([]byte, 8-n), s.take(n)...))
}

func (s *strict) span() int {
	b := s.take(1)[0]
	v := int(b % 128)
	for b >= 128 {
		b = s.take(1)[0]
		v = (v+1)*128 + int(b%128)
		need(v < 1<<50)
	}
	return v
}

func (s *strict) text() string { return string(s.take(s.span())) }

// records goes through a block's records up to its restarts; each takes what stands behind a key.
func (s *strict) records(base int, each func(key string, way int)) {
	ahead, restarts := "", []int{}
	end := len(s.p) - 2
	for n := 0; ; n++ {
		// The restarts begin where as many of them as there must be are left.
		if n > 0 && end-s.at == 3*((n+15)/16) && s.restartsFit(restarts) {
			s.at = len(s.p)
			return
		}
		place := s.at
		common, counted := s.span(), s.span()
		key := string(s.take(counted / 8))
		if n%16 == 0 {
			need(common == 0)
			restarts = append(restarts, base+place)
		} else {
			need(common <= len(ahead) && (key == "" || common == len(ahead) || ahead[common] != key[0]))
			key = ahead[:common] + key
		}
		need(key > ahead)
		each(key, counted%8)
		ahead = key
	}
}

// restartsFit answers whether just these restarts and their count are left.
func (s *strict) restartsFit(restarts []int) bool {
	var p []byte
	for _, place := range restarts {
		p = append(p, big(uint64(place), 3)...)
	}
	return bytes.Equal(s.p[s.at:], append(p, big(uint64(len(restarts)), 2)...))
}

func (s *strict) ref(key string, way int) api.Ref {
	r := api.Ref{Name: key}
	need(names.Ref(key) && s.span() == 0)
	switch way {
	case 0:
	case 1:
		r.Id = api.Id(s.take(32))
		need(r.Id != api.Id{})
	case 3:
		r.Target = s.text()
		need(names.Ref(r.Target))
	default:
		need(false)
	}
	return r
}

func (s *strict) note(key string, way int) api.Note {
	need(way == 1 && len(key) > 9)
	n := api.Note{Name: key[:len(key)-9], Index: int(^binary.BigEndian.Uint64([]byte(key[len(key)-8:])))}
	need(key[len(key)-9] == 0 && names.Ref(n.Name))
	n.Old, n.New = api.Id(s.take(32)), api.Id(s.take(32))
	n.Who = api.Ident{Name: s.text(), Email: s.text(), Time: s.span(), Zone: int(int16(s.big(2)))}
	n.Message = s.text()
	need(names.Ident(n.Who) && len(n.Message) <= 1000 && !strings.ContainsAny(n.Message, "\n\x00"))
	return n
}

// strictly answers the value that bytes are of, and whether they are of one.
func strictly(p []byte) (v value, is bool) {
	defer func() {
		if fault := recover(); fault != nil {
			_ = fault.(unlike)
			v, is = value{}, false
		}
	}()
	need(len(p) >= 100)
	front, end := p[:28], p[len(p)-72:]
	need(string(front[:8]) == "REFT\x02\x00\x00\x00" && string(front[24:]) == "s256" && bytes.Equal(front, end[:28]))
	least, most := binary.BigEndian.Uint64(front[8:]), binary.BigEndian.Uint64(front[16:])
	need(least >= 1 && least <= most && most <= 1<<40)
	need(binary.BigEndian.Uint32(end[68:]) == crc32.ChecksumIEEE(end[:68]))
	v.min, v.max = int(least), int(most)
	place := 0
	s := &strict{p: p[:len(p)-72], at: 28}
	if s.at < len(s.p) && s.p[s.at] == 'r' {
		s.at++
		size := int(s.big(3))
		need(size <= len(s.p))
		list := &strict{p: s.p[:size], at: 32}
		list.records(0, func(key string, way int) { v.refs = append(v.refs, list.ref(key, way)) })
		s.at = size
	}
	if s.at < len(s.p) {
		place = s.at
		v.notes = s.noteBlock(v.min, v.max)
	}
	need(bytes.Equal(end[28:68], append(append(make([]byte, 24), big(uint64(place), 8)...), make([]byte, 8)...)))
	return v, len(v.refs) <= 4096 && len(v.notes) <= 4096
}

// noteBlock reads the block of notes, which goes on up to the end.
func (s *strict) noteBlock(least, most int) []api.Note {
	need(s.take(1)[0] == 'g')
	size := int(s.big(3))
	data, _, e := zlib.Unwrap(s.p[s.at:], api.MaxData)
	need(e == api.OK && size == 4+len(data) && bytes.Equal(wrapped(data, 1), s.p[s.at:]))
	var notes []api.Note
	list := &strict{p: data}
	list.records(4, func(key string, way int) {
		n := list.note(key, way)
		need(n.Index >= least && n.Index <= most)
		notes = append(notes, n)
	})
	return notes
}
