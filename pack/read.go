package pack

import (
	"codicil/api"
	"codicil/delta"
	"codicil/object"
)

// teller is how far the items of a pack have been told.
type teller struct {
	pieces []Piece
	found  []Found
	depths []int          // how many deltas stand one on another; below 0, where an item isn't told yet
	first  map[api.Id]int // of the items that are told, the first by place that has an id
}

// Read answers the objects of a pack, deltas applied.
func Read(p []byte) ([]Found, api.Errno) {
	pieces, errno := Pieces(p)
	if errno != api.OK {
		return nil, errno
	}
	t := newTeller(pieces)
	// A try may end otherwise than that item's last one even where its base was there: of two items with one id another
	// one is the first, once it is told. So each round tries all that isn't told.
	for {
		told, errno := t.round()
		if told > 0 {
			continue
		}
		if errno != api.OK {
			return nil, errno
		}
		return t.found, api.OK
	}
}

// newTeller answers a teller that has told nothing.
func newTeller(pieces []Piece) *teller {
	t := &teller{
		pieces: pieces,
		found:  make([]Found, len(pieces)),
		depths: make([]int, len(pieces)),
		first:  make(map[api.Id]int, len(pieces)),
	}
	for place := range t.depths {
		t.depths[place] = -1
	}
	return t
}

// round tries each item that isn't told yet; it answers how many it told, and the error of the first one that it did not tell.
func (t *teller) round() (int, api.Errno) {
	told, first := 0, api.OK
	for place := range t.pieces {
		if t.depths[place] >= 0 {
			continue
		}
		errno := t.tryAt(place)
		switch {
		case errno == api.OK:
			told++
		case first == api.OK:
			first = errno
		}
	}
	return told, first
}

// tryAt tells the item at place, or answers why it can't be told yet.
func (t *teller) tryAt(place int) api.Errno {
	piece := t.pieces[place]
	if isObject(piece.Kind) {
		t.tell(place, api.Object{Kind: api.Kind(piece.Kind), Data: piece.Data}, 0)
		return api.OK
	}
	base, there := t.baseOf(piece)
	if !there || t.depths[base] < 0 {
		return api.ErrNone
	}
	if t.depths[base] == api.MaxDepth {
		return api.ErrLimit
	}
	from := t.found[base].Object
	data, errno := delta.Apply(from.Data, piece.Data, api.MaxData)
	if errno != api.OK {
		return errno
	}
	t.tell(place, api.Object{Kind: from.Kind, Data: data}, t.depths[base]+1)
	return api.OK
}

// baseOf answers the place of a delta's base, and whether there is one.
func (t *teller) baseOf(piece Piece) (int, bool) {
	if piece.Kind == bySpan {
		return placeOf(t.pieces, piece.BaseAt)
	}
	place, there := t.first[piece.Base]
	return place, there
}

// tell keeps what the item at place is.
func (t *teller) tell(place int, o api.Object, depth int) {
	// Its kind is one of an object and its bytes are few enough: it has an id.
	id, _ := object.Id(o)
	piece := t.pieces[place]
	t.found[place] = Found{Object: o, Id: id, At: piece.At, Crc: piece.Crc}
	t.depths[place] = depth
	if known, there := t.first[id]; !there || place < known {
		t.first[id] = place
	}
}
