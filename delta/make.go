package delta

import (
	"codicil/api"
	"codicil/num"
)

const (
	// A copy has at most 7 bytes where the base has MaxData, and may part an insert in two, which takes a byte more:
	// so no copy of a whole block makes a delta longer than inserts alone would be.
	block     = 16
	maxInsert = 127
)

// match is a run of bytes that base and target have alike.
type match struct {
	from, at, count int // where it begins in base, where in target, how many bytes it has
}

// Make answers a delta that makes target of base.
func Make(base, target []byte) ([]byte, api.Errno) {
	if len(base) > api.MaxData || len(target) > api.MaxData {
		return nil, api.ErrLong
	}
	out := num.PutSize(nil, uint64(len(base)))
	out = num.PutSize(out, uint64(len(target)))
	blocks := blocksOf(base)
	done := 0 // what stands in target ahead of it has been told
	for at := 0; at+block <= len(target); {
		from, alike := blocks[[block]byte(target[at:])]
		if !alike {
			at++
			continue
		}
		m := grow(base, target, match{from, at, block}, done)
		out = appendInserts(out, target[done:m.at])
		out = appendCopy(out, m.from, m.count)
		done = m.at + m.count
		at = done
	}
	return appendInserts(out, target[done:]), api.OK
}

// blocksOf answers where each block of base stands first. The first one leaves the most bytes behind it to go on with.
func blocksOf(base []byte) map[[block]byte]int {
	blocks := make(map[[block]byte]int, len(base)/block)
	for at := 0; at+block <= len(base); at += block {
		key := [block]byte(base[at:])
		if _, known := blocks[key]; !known {
			blocks[key] = at
		}
	}
	return blocks
}

// grow answers the match with all bytes that are alike ahead of it and behind it, in target from done on.
func grow(base, target []byte, m match, done int) match {
	for m.from > 0 && m.at > done && base[m.from-1] == target[m.at-1] {
		m.from--
		m.at--
		m.count++
	}
	for m.from+m.count < len(base) && m.at+m.count < len(target) && base[m.from+m.count] == target[m.at+m.count] {
		m.count++
	}
	return m
}

// appendInserts puts the inserts of p behind out.
func appendInserts(out, p []byte) []byte {
	for len(p) > 0 {
		n := min(len(p), maxInsert)
		out = append(out, byte(n))
		out = append(out, p[:n]...)
		p = p[n:]
	}
	return out
}
