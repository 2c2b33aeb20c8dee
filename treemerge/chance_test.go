package treemerge_test

import (
	"maps"
	"math/rand"
	"slices"
	"strconv"
	"strings"
	"testing"

	"codicil/api"
	"codicil/treemerge"
)

// P23.1, P23.2: all that a path can be in base, ours and theirs, of four texts, some of which can be merged, and of all
// modes.
func TestAllOfOnePath(t *testing.T) {
	var all []told
	for _, mark := range []string{"", "*", "@"} {
		for _, text := range []string{text, near, far, end} {
			all = append(all, told{"m" + mark + " " + text})
		}
	}
	files := own(blobsOf(all...)...)
	all = append(all, nil)
	for _, o := range all {
		for _, a := range all {
			for _, b := range all {
				wantPlain(t, strings.Join(slices.Concat(o, a, b), " "), files, o.slots(), a.slots(), b.slots())
			}
			wantSides(t, files, o.slots(), a.slots())
		}
	}
}

// wantSides fails unless a side that changed nothing, or the same as the other one, leaves what the other one has (P23.2).
func wantSides(t *testing.T, files []api.File, base, side []api.Slot) {
	t.Helper()
	wanted := treemerge.Result{Slots: bare(side)}
	wantIs(t, "ours changed nothing", files, base, base, side, wanted)
	wantIs(t, "theirs changed nothing", files, base, side, base, wanted)
	wantIs(t, "both changed alike", files, base, side, side, wanted)
}

// P23.1, P23.2: all that three paths can be in base, ours and theirs, with two texts that are alike: all ways to move.
func TestAllOfThreePaths(t *testing.T) {
	files := own(blob(text), blob(far))
	all := []told{nil}
	for _, path := range []string{"a", "b", "c"} {
		for _, l := range slices.Clone(all) {
			all = append(all, append(slices.Clone(l), path+" "+text), append(slices.Clone(l), path+" "+far))
		}
	}
	for _, o := range all {
		for _, a := range all {
			for _, b := range all {
				wantOneWay(t, "three paths", files, o.slots(), a.slots(), b.slots())
			}
			wantSides(t, files, o.slots(), a.slots())
		}
	}
}

// chancePaths are paths that lie in each other's way now and then.
func chancePaths() []string {
	return []string{"a", "a-", "a/b", "a/c", "b", "c", "d/e", "d/f", "g", "h"}
}

// anyText answers lines by chance that are alike to those of many other such texts.
func anyText(r *rand.Rand) string {
	text := ""
	kind := strconv.Itoa(r.Intn(3))
	for i := range 3 + r.Intn(5) {
		text += kind + " " + strconv.Itoa(i) + "\n"
	}
	return text
}

// edited answers a text with a line that changed, went or came.
func edited(r *rand.Rand, text string) string {
	lines := strings.SplitAfter(text, "\n")
	at := r.Intn(len(lines))
	switch r.Intn(3) {
	case 0:
		lines[at] = "x\n"
	case 1:
		lines[at] = ""
	default:
		lines[at] += strconv.Itoa(r.Intn(2)) + "\n"
	}
	return strings.Join(lines, "")
}

// chanceFile is a file by chance.
type chanceFile struct{ mark, text string }

// anyMark answers what stands behind a path for its mode.
func anyMark(r *rand.Rand) string {
	return []string{"", "", "", "*", "@"}[r.Intn(5)]
}

// anyTree answers files by chance.
func anyTree(r *rand.Rand) map[string]chanceFile {
	tree := map[string]chanceFile{}
	for _, path := range chancePaths() {
		if r.Intn(2) == 0 {
			tree[path] = chanceFile{anyMark(r), anyText(r)}
		}
	}
	return tree
}

// changed answers files of which some changed, went, moved or came.
func changed(r *rand.Rand, tree map[string]chanceFile) map[string]chanceFile {
	made := maps.Clone(tree)
	paths := chancePaths()
	for _, path := range slices.Sorted(maps.Keys(tree)) {
		f := tree[path]
		switch r.Intn(8) {
		case 0:
			delete(made, path)
		case 1, 2:
			f.text = edited(r, f.text)
			made[path] = f
		case 3:
			f.mark = anyMark(r)
			made[path] = f
		case 4:
			delete(made, path)
			if r.Intn(2) == 0 {
				f.text = edited(r, f.text)
			}
			made[paths[r.Intn(len(paths))]] = f
		}
	}
	if r.Intn(3) == 0 {
		made[paths[r.Intn(len(paths))]] = chanceFile{anyMark(r), anyText(r)}
	}
	return made
}

// list answers files as a list of slots.
func list(tree map[string]chanceFile) told {
	var l told
	for _, path := range slices.Sorted(maps.Keys(tree)) {
		l = append(l, path+tree[path].mark+" "+tree[path].text)
	}
	return l
}

// P23.1, P23.2: trees by chance, and such as were changed, against the chapter's words.
func TestByChance(t *testing.T) {
	r := rand.New(rand.NewSource(23))
	counts := map[string]int{}
	for range 6000 {
		base := anyTree(r)
		ours, theirs := list(changed(r, base)), list(changed(r, base))
		if r.Intn(8) == 0 {
			theirs = list(anyTree(r))
		}
		o := list(base)
		files := own(blobsOf(o, ours, theirs)...)
		made, e := wantPlain(t, "by chance", files, o.slots(), ours.slots(), theirs.slots())
		counts["error "+strconv.Itoa(int(e))]++
		if e == api.OK {
			counts["clashes "+strconv.Itoa(min(2, len(made.Work)))]++
			counts["objects "+strconv.Itoa(min(2, len(made.Objects)))]++
		}
	}
	for _, what := range []string{"error 0", "error 8", "clashes 0", "clashes 1", "clashes 2", "objects 0", "objects 1", "objects 2"} {
		if counts[what] < 50 {
			t.Errorf("too little was tried: %v", counts)
		}
	}
}

// P23.1: trees by chance of which some objects aren't there, are others, are no blobs, or have too many lines.
func TestErrorsByChance(t *testing.T) {
	r := rand.New(rand.NewSource(231))
	long, tree := blob(strings.Repeat("x\n", api.MaxLines+1)), api.Object{Kind: api.Tree}
	counts := map[api.Errno]int{}
	for range 3000 {
		base := anyTree(r)
		o, a, b := list(base), list(changed(r, base)), list(changed(r, base))
		files := own(append(blobsOf(o, a, b), long, tree)...)
		another := files[r.Intn(len(files))].Data
		switch at := r.Intn(len(files)); r.Intn(4) {
		case 0:
			files = slices.Delete(files, at, at+1)
		case 1:
			files[at].Data = another
		}
		lists := [3][]api.Slot{o.slots(), a.slots(), b.slots()}
		for _, l := range lists {
			for i := range l {
				switch r.Intn(40) {
				case 0:
					l[i].Id = idOf(long)
				case 1:
					l[i].Id = idOf(tree)
				}
			}
		}
		_, e := wantOneWay(t, "by chance", files, lists[0], lists[1], lists[2])
		counts[e]++
	}
	for _, e := range []api.Errno{api.OK, api.ErrLong, api.ErrSum, api.ErrNone, api.ErrExists, api.ErrType} {
		if counts[e] < 50 {
			t.Errorf("too little was tried: %v", counts)
		}
	}
}
