package object

import (
	"slices"
	"strconv"
	"strings"

	"codicil/api"
	"codicil/names"
)

// PutTree answers the bytes of the tree with the entries l.
func PutTree(l []api.Entry) ([]byte, api.Errno) {
	if errno := treeError(l); errno != api.OK {
		return nil, errno
	}
	var p []byte
	for _, e := range l {
		p = append(p, modeDigits(e.Mode)...)
		p = append(p, ' ')
		p = append(p, e.Name...)
		p = append(p, 0)
		p = append(p, e.Id[:]...)
	}
	return p, api.OK
}

// treeError answers, of the errors of a tree, the one with the least number.
func treeError(l []api.Entry) api.Errno {
	switch {
	case len(l) > api.MaxEntries || treeSize(l) > api.MaxData:
		return api.ErrLong
	case slices.ContainsFunc(l, func(e api.Entry) bool { return !names.Name(e.Name) }):
		return api.ErrName
	case slices.ContainsFunc(l, func(e api.Entry) bool { return !names.Mode(e.Mode) }) || !rising(l):
		return api.ErrForm
	case sameName(l):
		return api.ErrExists
	}
	return api.OK
}

// treeSize answers how many bytes the entries would have, names that may not be too: those alone can make it too many.
func treeSize(l []api.Entry) int {
	size := 0
	for _, e := range l {
		size += len(modeDigits(e.Mode)) + len(" ") + len(e.Name) + len("\x00") + len(e.Id)
	}
	return size
}

// modeDigits answers a mode in octal digits.
func modeDigits(mode int) string {
	return strconv.FormatInt(int64(mode), 8)
}

// rising answers whether each entry stands behind the one ahead of it.
func rising(l []api.Entry) bool {
	for i := 1; i < len(l); i++ {
		if names.Order(l[i-1], l[i]) >= 0 {
			return false
		}
	}
	return true
}

// sameName answers whether two entries have one name. Where they rise, these are a file and a tree, and others may stand between them.
func sameName(l []api.Entry) bool {
	seen := make(map[string]struct{}, len(l))
	for _, e := range l {
		seen[e.Name] = struct{}{}
	}
	return len(seen) < len(l)
}

// ParseTree answers the entries of the tree that is written as p.
func ParseTree(p []byte) ([]api.Entry, api.Errno) {
	return parse(p, readTree, PutTree)
}

// readTree reads entries till text ends.
func readTree(text string) []api.Entry {
	var l []api.Entry
	for text != "" {
		mode, behindMode, _ := strings.Cut(text, " ")
		name, behindName, _ := strings.Cut(behindMode, "\x00")
		e := api.Entry{Mode: octal(mode), Name: strings.Clone(name)}
		text = behindName[copy(e.Id[:], behindName):]
		l = append(l, e)
	}
	return l
}

// octal answers the number that s is in octal digits; what is none is written otherwise than it was, whatever stands for it.
func octal(s string) int {
	n, _ := strconv.ParseInt(s, 8, 0)
	return int(n)
}

// treeLinks answers to what the tree that is written as p points.
func treeLinks(p []byte) ([]Link, api.Errno) {
	entries, errno := ParseTree(p)
	var links []Link
	for _, e := range entries {
		kind := api.Blob
		if e.Mode == api.ModeTree {
			kind = api.Tree
		}
		links = append(links, Link{kind, e.Id})
	}
	return links, errno
}
