package object

import (
	"strings"

	"codicil/api"
	"codicil/names"
	"codicil/sha"
)

const maxTagName = 100 // bytes of a tag's name

// PutTag answers the bytes of the tag l.
func PutTag(l api.Label) ([]byte, api.Errno) {
	if errno := tagError(l); errno != api.OK {
		return nil, errno
	}
	tagger, _ := names.PutIdent(l.Tagger)
	p := putLine(nil, "object", sha.Hex(l.Target))
	p = putLine(p, "type", word(l.Kind))
	p = putLine(p, "tag", l.Name)
	p = putLine(p, "tagger", tagger)
	return putMessage(p, l.Message), api.OK
}

// tagError answers, of the errors of a tag, the one with the least number.
func tagError(l api.Label) api.Errno {
	switch {
	case len(l.Message) > api.MaxText:
		return api.ErrLong
	case !tagName(l.Name) || !names.Ident(l.Tagger):
		return api.ErrName
	case hasZero(l.Message):
		return api.ErrForm
	case word(l.Kind) == "":
		return api.ErrType
	}
	return api.OK
}

// tagName answers whether s may be a tag's name.
func tagName(s string) bool {
	return len(s) >= 1 && len(s) <= maxTagName && !strings.ContainsAny(s, "\x00\n")
}

// ParseTag answers the tag that is written as p.
func ParseTag(p []byte) (api.Label, api.Errno) {
	return parse(p, readTag, PutTag)
}

// readTag reads the lines of a tag one behind the other.
func readTag(text string) api.Label {
	var l api.Label
	target, text := cutLine(text, "object")
	l.Target, _ = sha.Parse(target)
	kind, text := cutLine(text, "type")
	l.Kind = kindOf(kind)
	name, text := cutLine(text, "tag")
	l.Name = strings.Clone(name)
	tagger, text := cutLine(text, "tagger")
	l.Tagger, _ = names.ParseIdent(tagger)
	l.Message = readMessage(text)
	return l
}

// tagLinks answers to what the tag that is written as p points.
func tagLinks(p []byte) ([]Link, api.Errno) {
	l, errno := ParseTag(p)
	if errno != api.OK {
		return nil, errno
	}
	return []Link{{l.Kind, l.Target}}, api.OK
}
