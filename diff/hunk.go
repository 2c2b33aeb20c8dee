package diff

import (
	"math"
	"strings"

	"codicil/api"
)

// Hunk is a piece of a way on which nothing stays.
type Hunk struct {
	From, To complex128
}

// Hunks answers the pieces of the way on which lines go and come.
func Hunks(a, b []string) ([]Hunk, api.Errno) {
	way, errno := Way(a, b)
	if errno != api.OK {
		return nil, errno
	}
	var hunks []Hunk
	for i, to := range way[1:] {
		from, last := way[i], len(hunks)-1
		if to-from == 1+1i {
			continue
		}
		if last >= 0 && hunks[last].To == from {
			hunks[last].To = to
		} else {
			hunks = append(hunks, Hunk{From: from, To: to})
		}
	}
	return hunks, api.OK
}

// Apply answers a with the lines of each hunk exchanged for those of b.
func Apply(a, b []string, hunks []Hunk) ([]string, api.Errno) {
	switch {
	case tooLong(a, b):
		return nil, api.ErrLong
	case !inForm(hunks, endOf(a, b)):
		return nil, api.ErrForm
	}
	var made []string
	next := 0
	for _, h := range hunks {
		fromA, fromB := parts(h.From)
		toA, toB := parts(h.To)
		made = appendOwn(made, a[next:fromA])
		made = appendOwn(made, b[fromB:toB])
		next = toA
	}
	return appendOwn(made, a[next:]), api.OK
}

// appendOwn puts lines behind others, in memory of their own.
func appendOwn(made, lines []string) []string {
	for _, line := range lines {
		made = append(made, strings.Clone(line))
	}
	return made
}

// inForm answers whether hunks may be of a plane with that end: between them, as many lines of both lists stay.
func inForm(hunks []Hunk, end complex128) bool {
	var behind complex128
	for i, h := range hunks {
		if !inPlane(h.From, end) || !inPlane(h.To, end) {
			return false
		}
		stays, piece := h.From-behind, h.To-h.From
		switch {
		case real(stays) != imag(stays), i > 0 && real(stays) < 1:
			return false
		case real(piece) < 0, imag(piece) < 0, piece == 0:
			return false
		}
		behind = h.To
	}
	left := end - behind
	return real(left) == imag(left)
}

// inPlane answers whether a point is one of the plane with that end.
func inPlane(at, end complex128) bool {
	return isWhole(real(at), real(end)) && isWhole(imag(at), imag(end))
}

// isWhole answers whether a part is a whole number from 0 to most; what is no number at all is none.
func isWhole(part, most float64) bool {
	return part >= 0 && part <= most && part == math.Trunc(part)
}
