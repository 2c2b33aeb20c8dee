package merge

import (
	"slices"

	"codicil/diff"
)

// gone stands for the place of a line that doesn't stay.
const gone = -1

// piece is the lines of base, ours and theirs that belong together; an anchor is one, too, with one line of each.
type piece struct {
	base, ours, theirs []string
}

// cut answers the pieces of three lists, one behind the other.
func cut(base, ours, theirs []string) []piece {
	inOurs, inTheirs := places(base, ours), places(base, theirs)
	var pieces []piece
	var from struct{ x, y, z int }
	for x := range base {
		y, z := inOurs[x], inTheirs[x]
		if y == gone || z == gone {
			continue
		}
		pieces = append(pieces,
			piece{base[from.x:x], ours[from.y:y], theirs[from.z:z]},
			piece{base[x : x+1], ours[y : y+1], theirs[z : z+1]})
		from.x, from.y, from.z = x+1, y+1, z+1
	}
	return append(pieces, piece{base[from.x:], ours[from.y:], theirs[from.z:]})
}

// places answers for each line of base its place on a side on which it stays, else gone.
func places(base, side []string) []int {
	list := slices.Repeat([]int{gone}, len(base))
	// Lists that aren't too long have a way.
	way, _ := diff.Way(base, side)
	for i := 1; i < len(way); i++ {
		if from := way[i-1]; way[i]-from == 1+1i {
			list[int(real(from))] = int(imag(from))
		}
	}
	return list
}

// settle answers the lines of a piece in which both changes are made, and whether that can be.
func (p piece) settle() ([]string, bool) {
	switch {
	case slices.Equal(p.ours, p.base):
		return p.theirs, true
	case slices.Equal(p.theirs, p.base), slices.Equal(p.ours, p.theirs):
		return p.ours, true
	}
	return nil, false
}

// appendClash puts all three lists of a piece behind a text, with a mark ahead of each and behind the last one.
func (p piece) appendClash(text []byte, labels [2]string) []byte {
	text = append(text, "<<<<<<< "+labels[0]+"\n"...)
	text = appendEnded(text, p.ours)
	text = append(text, "||||||| base\n"...)
	text = appendEnded(text, p.base)
	text = append(text, "=======\n"...)
	text = appendEnded(text, p.theirs)
	return append(text, ">>>>>>> "+labels[1]+"\n"...)
}

// appendEnded puts lines behind a text, the last one with a line feed, so that a mark behind it is a line of its own.
func appendEnded(text []byte, lines []string) []byte {
	text = appendLines(text, lines)
	// What stands ahead of the lines ends with a line feed: only their own last byte can be another one.
	if text[len(text)-1] != '\n' {
		text = append(text, '\n')
	}
	return text
}

// appendLines puts lines behind a text.
func appendLines(text []byte, lines []string) []byte {
	for _, line := range lines {
		text = append(text, line...)
	}
	return text
}
