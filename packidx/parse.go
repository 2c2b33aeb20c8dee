package packidx

import (
	"slices"

	"codicil/api"
	"codicil/num"
	"codicil/sha"
)

// rowsAt is where the first row's id stands.
const rowsAt = len(head) + fanCount*wordSize

// Parse answers the rows of an index, by ids, and the bytes with which its pack ends.
func Parse(p []byte) ([]Row, api.Id, api.Errno) {
	count, errno := countRows(p)
	if errno == api.OK {
		errno = checkSize(p, count)
	}
	if errno != api.OK {
		return nil, api.Id{}, errno
	}
	body, sum := cutId(p)
	if sum != sha.Sum(body) {
		return nil, api.Id{}, api.ErrSum
	}
	rows, inOrder := readRows(p, count)
	if !inOrder || !rise(rows) || fanOf(rows) != readFan(p) {
		return nil, api.Id{}, api.ErrForm
	}
	_, pack := cutId(body)
	return rows, pack, api.OK
}

// Find answers the row of an id.
func Find(p []byte, id api.Id) (Row, api.Errno) {
	rows, _, errno := Parse(p)
	if errno != api.OK {
		return Row{}, errno
	}
	place, there := slices.BinarySearchFunc(rows, id, func(row Row, id api.Id) int { return sha.Compare(row.Id, id) })
	if !there {
		return Row{}, api.ErrNone
	}
	return rows[place], api.OK
}

// countRows answers how many rows there must be by the fan.
func countRows(p []byte) (int, api.Errno) {
	if len(p) < leastSize {
		return 0, api.ErrShort
	}
	if string(p[:len(head)]) != head {
		return 0, api.ErrForm
	}
	fan := readFan(p)
	if !slices.IsSorted(fan[:]) {
		return 0, api.ErrForm
	}
	count := fan[fanCount-1]
	if count > api.MaxObjects {
		return 0, api.ErrLimit
	}
	return int(count), api.OK
}

// readFan answers the fan of an index, whatever the ids are.
func readFan(p []byte) [fanCount]uint64 {
	var fan [fanCount]uint64
	for i := range fan {
		fan[i] = numberAt(p, len(head)+i*wordSize, wordSize)
	}
	return fan
}

// checkSize asks for just the bytes that so many rows have, with the long places that they name.
func checkSize(p []byte, count int) api.Errno {
	size := leastSize + count*rowSize
	if len(p) < size {
		return api.ErrShort
	}
	for i := range count {
		if shortPlace(p, count, i) >= firstLong {
			size += longSize
		}
	}
	if len(p) < size {
		return api.ErrShort
	}
	if len(p) > size {
		return api.ErrForm
	}
	return api.OK
}

// shortPlace answers the short place of a row, of so many.
func shortPlace(p []byte, count, row int) uint64 {
	return numberAt(p, rowsAt+count*(idSize+wordSize)+row*wordSize, wordSize)
}

// readRows answers so many rows as they stand, and whether they name the long places in their order, each once.
func readRows(p []byte, count int) ([]Row, bool) {
	rows := make([]Row, count)
	named := 0
	for i := range rows {
		copy(rows[i].Id[:], p[rowsAt+i*idSize:])
		rows[i].Crc = uint32(numberAt(p, rowsAt+count*idSize+i*wordSize, wordSize))
		rows[i].At = shortPlace(p, count, i)
		if rows[i].At < firstLong {
			continue
		}
		if rows[i].At != firstLong+uint64(named) {
			return nil, false
		}
		rows[i].At = numberAt(p, rowsAt+count*rowSize+named*longSize, longSize)
		named++
	}
	return rows, true
}

// numberAt answers the number of so many bytes at a place that is known to have them.
func numberAt(p []byte, at, size int) uint64 {
	v, _ := num.Big(p, at, size)
	return v
}

// cutId answers bytes without the id at their end, and that id.
func cutId(p []byte) ([]byte, api.Id) {
	var id api.Id
	copy(id[:], p[len(p)-idSize:])
	return p[:len(p)-idSize], id
}
