package rename

import (
	"bytes"
	"slices"
	"strings"

	"codicil/api"
	"codicil/fault"
	"codicil/odb"
)

// Pair is a file that moved.
type Pair struct {
	From, To string
	Like     int
}

// Pairs answers which of the paths that are in a alone moved to which of those in b alone, by To.
func Pairs(files []api.File, a, b []api.Slot, least int) ([]Pair, api.Errno) {
	if errno := fault.Least(refuses(a, b), outside(least)); errno != api.OK {
		return nil, errno
	}
	went, came := alone(a, b), alone(b, a)
	texts, errno := blobsOf(files, slices.Concat(went, came))
	if errno != api.OK {
		return nil, errno
	}
	// What only moved is paired ahead of all others: of those left no two are held against each other for nothing.
	pairs, went, came := pairSame(went, came)
	pairs = append(pairs, pairAlike(went, came, likes(went, came, texts, least), least)...)
	slices.SortFunc(pairs, func(p, q Pair) int { return strings.Compare(p.To, q.To) })
	return pairs, api.OK
}

// outside answers the error of a least Like that may not be.
func outside(least int) api.Errno {
	if least < 1 || least > same {
		return api.ErrArg
	}
	return api.OK
}

// alone answers the slots of l whose paths aren't in other.
func alone(l, other []api.Slot) []api.Slot {
	var list []api.Slot
	for _, s := range l {
		_, both := slices.BinarySearchFunc(other, s.Path, func(o api.Slot, path string) int { return strings.Compare(o.Path, path) })
		if !both {
			list = append(list, s)
		}
	}
	return list
}

// blobsOf answers the bytes of the slots' blobs by ids.
func blobsOf(files []api.File, slots []api.Slot) (map[api.Id][]byte, api.Errno) {
	texts := map[api.Id][]byte{}
	if len(slots) == 0 {
		// Where nothing is got, files have no error.
		return texts, api.OK
	}
	errno := odb.Reading(files, func(get odb.Getter) api.Errno {
		for _, s := range slots {
			if _, known := texts[s.Id]; known {
				continue
			}
			o, errno := get(s.Id)
			if errno != api.OK {
				return errno
			}
			if o.Kind != api.Blob {
				return api.ErrType
			}
			texts[s.Id] = o.Data
		}
		return api.OK
	})
	return texts, errno
}

// pairSame answers the pairs whose blobs are one, and the slots that are left; came is used up.
func pairSame(went, came []api.Slot) ([]Pair, []api.Slot, []api.Slot) {
	var pairs []Pair
	var left []api.Slot
	for _, s := range went {
		to := slices.IndexFunc(came, func(o api.Slot) bool { return o.Id == s.Id })
		if to < 0 {
			left = append(left, s)
			continue
		}
		pairs = append(pairs, pairOf(s, came[to], same))
		came = slices.Delete(came, to, to+1)
	}
	return pairs, left, came
}

// pairOf answers a pair in memory of its own.
func pairOf(from, to api.Slot, like int) Pair {
	return Pair{From: strings.Clone(from.Path), To: strings.Clone(to.Path), Like: like}
}

// pairAlike answers the pairs of slots no two of which have one blob, by their likes, which are used up.
func pairAlike(went, came []api.Slot, likes [][]byte, least int) []Pair {
	var pairs []Pair
	for like := same - 1; like >= least; like-- {
		for from, row := range likes {
			to := bytes.IndexByte(row, byte(like))
			if to < 0 {
				continue
			}
			pairs = append(pairs, pairOf(went[from], came[to], like))
			clear(row)
			for _, other := range likes {
				other[to] = 0
			}
		}
	}
	return pairs
}

// likes answers for each slot that went a row of how alike it is to each that came, with 0 for what is below least.
func likes(went, came []api.Slot, texts map[api.Id][]byte, least int) [][]byte {
	held := heldLines(came, texts)
	rows := make([][]byte, len(went))
	for from, s := range went {
		rows[from] = make([]byte, len(came))
		text := texts[s.Id]
		for to, stays := range mostStays(text, held, len(came)) {
			other := texts[came[to].Id]
			// Few texts have much in common: for the others no way is looked for.
			if share(stays, text, other) < least {
				continue
			}
			if like := Like(text, other); like >= least {
				rows[from][to] = byte(like)
			}
		}
	}
	return rows
}

// holding is how many times a line stands in the text of the slot at a place.
type holding struct {
	place, times int
}

// heldLines answers for each line the texts of slots in which it stands.
func heldLines(slots []api.Slot, texts map[api.Id][]byte) map[string][]holding {
	held := map[string][]holding{}
	for place, s := range slots {
		for line, times := range countLines(texts[s.Id]) {
			held[line] = append(held[line], holding{place: place, times: times})
		}
	}
	return held
}

// countLines answers how many times each line stands in a text.
func countLines(text []byte) map[string]int {
	counts := map[string]int{}
	for _, line := range linesOf(text) {
		counts[line]++
	}
	return counts
}

// mostStays answers how many bytes stay at most on the way from a text to each of so many others: a line can't stay more
// times than it stands in both.
func mostStays(text []byte, held map[string][]holding, count int) []int {
	most := make([]int, count)
	for line, times := range countLines(text) {
		for _, h := range held[line] {
			most[h.place] += len(line) * min(times, h.times)
		}
	}
	return most
}
