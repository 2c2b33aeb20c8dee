package pack

import (
	"cmp"
	"slices"

	"codicil/api"
	"codicil/num"
	"codicil/sha"
	"codicil/zlib"
)

// Pieces answers the items of a pack, as they stand.
func Pieces(p []byte) ([]Piece, api.Errno) {
	count, errno := readHead(p)
	if errno != api.OK {
		return nil, errno
	}
	body, sum := p[:len(p)-sumSize], api.Id(p[len(p)-sumSize:])
	var list []Piece
	at := headSize

next:
	if len(list) < count {
		piece, errno := readPiece(body, at, list)
		if errno != api.OK {
			return nil, errno
		}
		list = append(list, piece)
		at = piece.End
		goto next
	}

	if at < len(body) {
		return nil, api.ErrForm
	}
	if sha.Sum(body) != sum {
		return nil, api.ErrSum
	}
	return list, api.OK
}

// readHead answers how many items a pack has.
func readHead(p []byte) (int, api.Errno) {
	if len(p) < headSize+sumSize {
		return 0, api.ErrShort
	}
	if string(p[:len(mark)]) != mark {
		return 0, api.ErrForm
	}
	count, _ := num.Big(p, len(mark), countSize)
	if count > api.MaxObjects {
		return 0, api.ErrLimit
	}
	return int(count), api.OK
}

// readPiece answers the item that begins at at; earlier are those that stand ahead of it.
func readPiece(body []byte, at int, earlier []Piece) (Piece, api.Errno) {
	kind, size, behind, errno := num.Head(body, at)
	if errno != api.OK {
		return Piece{}, errno
	}
	if !mayStand(kind) {
		return Piece{}, api.ErrType
	}
	if size > api.MaxData {
		return Piece{}, api.ErrLimit
	}
	piece := Piece{Kind: kind, At: at}
	switch kind {
	case bySpan:
		piece.BaseAt, behind, errno = readSpan(body, behind, at, earlier)
	case byId:
		piece.Base, behind, errno = readId(body, behind)
	}
	if errno != api.OK {
		return Piece{}, errno
	}
	data, count, errno := zlib.Unwrap(body[behind:], int(size))
	if errno != api.OK {
		return Piece{}, errno
	}
	if len(data) < int(size) {
		return Piece{}, api.ErrForm
	}
	piece.Data = data
	piece.End = behind + count
	piece.Crc = zlib.Crc(body[at:piece.End])
	return piece, api.OK
}

// readSpan answers where the base begins that the span at from names for the item at at, and the place behind the span.
func readSpan(body []byte, from, at int, earlier []Piece) (int, int, api.Errno) {
	distance, behind, errno := num.Span(body, from)
	if errno != api.OK {
		return 0, 0, errno
	}
	// A distance may be beyond any int: it is held against at as it is.
	if distance > uint64(at) {
		return 0, 0, api.ErrForm
	}
	baseAt := at - int(distance)
	// No item is earlier than itself: so a distance of 0 finds none.
	if _, begins := placeOf(earlier, baseAt); !begins {
		return 0, 0, api.ErrForm
	}
	return baseAt, behind, api.OK
}

// placeOf answers the place in the list of the piece that begins at at, and whether there is one.
func placeOf(list []Piece, at int) (int, bool) {
	return slices.BinarySearchFunc(list, at, func(piece Piece, at int) int { return cmp.Compare(piece.At, at) })
}

// readId answers the id that stands at at, and the place behind it.
func readId(body []byte, at int) (api.Id, int, api.Errno) {
	if len(body)-at < len(api.Id{}) {
		return api.Id{}, 0, api.ErrShort
	}
	return api.Id(body[at:]), at + len(api.Id{}), api.OK
}
