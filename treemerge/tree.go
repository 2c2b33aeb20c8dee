package treemerge

import (
	"slices"
	"strings"

	"codicil/api"
	"codicil/rename"
)

// The places in a trio; a version that clashes has the stage of the next number.
const (
	inBase = iota
	inOurs
	inTheirs
)

// version is what a slot says of a file: two slots are one just where their versions are alike. No slot is the zero version,
// as no file has the mode 0.
type version struct {
	mode int
	id   api.Id
}

// there answers whether there is a slot.
func (v version) there() bool {
	return v != version{}
}

// trio is the versions of a path in base, ours and theirs.
type trio [3]version

// tree is the paths of base, ours and theirs with their versions.
type tree map[string]trio

// gather answers the tree of base, ours and theirs.
func gather(lists ...[]api.Slot) tree {
	t := tree{}
	for place, l := range lists {
		for _, s := range l {
			versions := t[s.Path]
			versions[place] = version{mode: s.Mode, id: s.Id}
			t[s.Path] = versions
		}
	}
	return t
}

// follow brings the versions of each moved file together, at the path that it moved to.
func (t tree) follow(ours, theirs []rename.Pair) {
	for _, p := range ours {
		t.move(p, inTheirs, hasPair(theirs, p))
	}
	for _, p := range theirs {
		// What both sides moved to one path has been followed: ours has no slot of its From, so it isn't once more.
		t.move(p, inOurs, false)
	}
}

// move brings the versions of a pair of one side together, if it counts; both says whether the other side has it, too. What
// it changes, no other pair that counts asks: a From is in base and a To isn't.
func (t tree) move(p rename.Pair, other int, both bool) {
	from, to := t[p.From], t[p.To]
	if !both {
		if !from[other].there() || to[other].there() {
			return
		}
		to[other] = from[other]
	}
	to[inBase] = from[inBase]
	t[p.To] = to
	delete(t, p.From)
}

// hasPair answers whether one of pairs, which are ordered by To, leads from and to the same paths, however alike the texts are.
func hasPair(pairs []rename.Pair, p rename.Pair) bool {
	at, there := slices.BinarySearchFunc(pairs, p.To, func(q rename.Pair, to string) int { return strings.Compare(q.To, to) })
	return there && pairs[at].From == p.From
}
