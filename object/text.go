package object

import (
	"strings"

	"codicil/api"
)

// parse answers the value that p is written as. read takes each text as if it were in form: only what put makes of its value tells whether it was.
func parse[T any](p []byte, read func(string) T, put func(T) ([]byte, api.Errno)) (T, api.Errno) {
	var none T
	if len(p) > api.MaxData {
		return none, api.ErrLong
	}
	text := string(p)
	value := read(text)
	if again, errno := put(value); errno != api.OK || string(again) != text {
		return none, api.ErrForm
	}
	return value, api.OK
}

// putLine appends a line to p.
func putLine(p []byte, word, rest string) []byte {
	p = append(p, word...)
	p = append(p, ' ')
	p = append(p, rest...)
	return append(p, '\n')
}

// cutLine answers the rest of the line of that word with which text begins, and what stands behind the line; where text begins otherwise, no rest and the text.
func cutLine(text, word string) (rest, behind string) {
	line, found := strings.CutPrefix(text, word+" ")
	if !found {
		return "", text
	}
	rest, behind, _ = strings.Cut(line, "\n")
	return rest, behind
}

// putMessage appends the empty line and the message to p.
func putMessage(p []byte, message string) []byte {
	p = append(p, '\n')
	return append(p, message...)
}

// readMessage answers the message that stands behind the empty line.
func readMessage(text string) string {
	return strings.Clone(strings.TrimPrefix(text, "\n"))
}

// hasZero answers whether a byte 0 stands in a message.
func hasZero(message string) bool {
	return strings.Contains(message, "\x00")
}
