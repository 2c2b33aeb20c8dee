package rename

import (
	"bytes"

	"codicil/api"
	"codicil/diff"
)

// same is how alike texts are that are the same; others are less so.
const same = 100

// Like answers how alike two texts are, from 0 to 100.
func Like(a, b []byte) int {
	if bytes.Equal(a, b) {
		return same
	}
	from, to := linesOf(a), linesOf(b)
	// Of too many lines there is no way: nothing stays on it.
	way, _ := diff.Way(from, to)
	stays := 0
	for i := 1; i < len(way); i++ {
		if way[i]-way[i-1] == 1+1i {
			stays += len(from[int(real(way[i-1]))])
		}
	}
	return share(stays, a, b)
}

// share answers how alike two different texts are on whose way so many bytes stay: below same, as a byte goes or comes.
func share(stays int, a, b []byte) int {
	return 2 * same * stays / (len(a) + len(b))
}

// linesOf answers the lines of a text; of far too many none, so that no long list is made for nothing.
func linesOf(text []byte) []string {
	if bytes.Count(text, []byte{'\n'}) > api.MaxLines {
		return nil
	}
	return diff.Lines(text)
}
