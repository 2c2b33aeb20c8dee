package deflate

const (
	minMatch    = 3
	maxMatch    = 258
	maxDistance = 32768
	nowhere     = -1
)

// finder finds matches among the places of p that it has been told.
type finder struct {
	p    []byte
	last map[[minMatch]byte]int // where these three bytes stood last
	back []int                  // for each place the last one ahead of it with the same three bytes, or nowhere
}

func newFinder(p []byte) *finder {
	return &finder{p: p, last: make(map[[minMatch]byte]int), back: make([]int, len(p))}
}

// three answers the bytes by which a place is found.
func (f *finder) three(at int) [minMatch]byte {
	return [minMatch]byte{f.p[at], f.p[at+1], f.p[at+2]}
}

// add tells the next place. Where fewer than three bytes are left, no match can begin.
func (f *finder) add(at int) {
	if len(f.p)-at < minMatch {
		return
	}
	f.back[at] = f.lastLike(at)
	f.last[f.three(at)] = at
}

// lastLike answers the last place that has the three bytes that stand at at, or nowhere.
func (f *finder) lastLike(at int) int {
	place, found := f.last[f.three(at)]
	if !found {
		return nowhere
	}
	return place
}

// match answers the length and the distance of the match at at, or a length of 0. Places are tried from the nearest on, so
// of several with one length the nearest one stays.
func (f *finder) match(at int) (length, distance int) {
	most := min(maxMatch, len(f.p)-at)
	if most < minMatch {
		return 0, 0
	}
	for place := f.lastLike(at); place != nowhere && at-place <= maxDistance; place = f.back[place] {
		// A longer match must have this byte too; asking for it first leaves most places out.
		if f.p[place+length] != f.p[at+length] {
			continue
		}
		if n := f.common(place, at, most); n > length {
			length, distance = n, at-place
		}
		if length == most {
			break
		}
	}
	return length, distance
}

// common answers how many bytes, at most so many, are the same from two places on.
func (f *finder) common(place, at, most int) int {
	n := 0
	for n < most && f.p[place+n] == f.p[at+n] {
		n++
	}
	return n
}
