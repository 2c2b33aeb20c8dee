package treemerge

import (
	"maps"
	"slices"
	"strings"

	"codicil/api"
	"codicil/merge"
	"codicil/object"
	"codicil/odb"
)

// choose answers what comes of a thing that both sides may have changed as a whole, and whether that can be told.
func choose[T comparable](base, ours, theirs T) (T, bool) {
	switch {
	case ours == theirs, theirs == base:
		return ours, true
	case ours == base:
		return theirs, true
	}
	var none T
	return none, false
}

// whole answers the version that comes of a path without its texts, and whether that can be told.
func (v trio) whole() (version, bool) {
	return choose(v[inBase], v[inOurs], v[inTheirs])
}

// mode answers the mode that comes of both sides' files, and whether that can be told. A base without a slot has a mode that
// no side has.
func (v trio) mode() (int, bool) {
	return choose(v[inBase].mode, v[inOurs].mode, v[inTheirs].mode)
}

// hasTexts answers whether both sides have texts, which can be merged.
func (v trio) hasTexts() bool {
	isText := func(side version) bool { return side.there() && side.mode != api.ModeLink }
	return isText(v[inOurs]) && isText(v[inTheirs])
}

// left answers the version whose blob stands for a path of which no texts can be merged: ours, if there is one.
func (v trio) left() version {
	if v[inOurs].there() {
		return v[inOurs]
	}
	return v[inTheirs]
}

// making is a merge under way, and what has come of it.
type making struct {
	labels [2]string
	get    odb.Getter
	made   Result
}

// settle answers what comes of all paths, rising.
func (t tree) settle(files []api.File, labels [2]string) (Result, api.Errno) {
	m := making{labels: labels}
	settleAll := func(get odb.Getter) api.Errno {
		m.get = get
		for _, path := range slices.Sorted(maps.Keys(t)) {
			if errno := m.settle(path, t[path]); errno != api.OK {
				return errno
			}
		}
		return api.OK
	}
	var errno api.Errno
	if t.needsBlobs() {
		errno = odb.Reading(files, settleAll)
	} else {
		// Where no blob is got, files have no error.
		errno = settleAll(nil)
	}
	return m.made, errno
}

// needsBlobs answers whether the texts of a path are asked.
func (t tree) needsBlobs() bool {
	for _, v := range t {
		if _, settled := v.whole(); !settled {
			return true
		}
	}
	return false
}

// settle makes of a path what comes of its versions.
func (m *making) settle(path string, v trio) api.Errno {
	if one, settled := v.whole(); settled {
		m.put(path, 0, one)
		return api.OK
	}
	if v.hasTexts() {
		return m.mergeTexts(path, v)
	}
	text, errno := m.text(v.left())
	if errno != api.OK {
		return errno
	}
	m.clash(path, v, text)
	return api.OK
}

// mergeTexts makes of a path what comes of the texts of both sides and of their modes.
func (m *making) mergeTexts(path string, v trio) api.Errno {
	var texts [3][]byte
	for place, one := range v {
		text, errno := m.text(one)
		if errno != api.OK {
			return errno
		}
		texts[place] = text
	}
	text, clashes, errno := merge.Three(texts[inBase], texts[inOurs], texts[inTheirs], m.labels)
	if errno != api.OK {
		return errno
	}
	mode, settled := v.mode()
	if !settled || clashes > 0 {
		m.clash(path, v, text)
		return api.OK
	}
	blob := api.Object{Kind: api.Blob, Data: text}
	// What comes out of a merge isn't too long for a blob: it has an id.
	id, _ := object.Id(blob)
	m.made.Objects = append(m.made.Objects, blob)
	m.put(path, 0, version{mode: mode, id: id})
	return api.OK
}

// text answers the bytes of a version's blob; of none there are none.
func (m *making) text(v version) ([]byte, api.Errno) {
	if !v.there() {
		return nil, api.OK
	}
	o, errno := m.get(v.id)
	switch {
	case errno != api.OK:
		return nil, errno
	case o.Kind != api.Blob:
		return nil, api.ErrType
	}
	return o.Data, api.OK
}

// clash puts a slot of each version of a path, and its text.
func (m *making) clash(path string, v trio, text []byte) {
	for place, one := range v {
		m.put(path, place+1, one)
	}
	m.made.Work = append(m.made.Work, api.File{Path: strings.Clone(path), Data: text})
}

// put puts a slot of a version, if that is one.
func (m *making) put(path string, stage int, v version) {
	if v.there() {
		m.made.Slots = append(m.made.Slots, api.Slot{Path: strings.Clone(path), Stage: stage, Mode: v.mode, Id: v.id})
	}
}
