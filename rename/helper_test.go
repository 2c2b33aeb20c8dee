package rename_test

import (
	"bytes"
	"crypto/sha256"
	"fmt"
	"maps"
	"math/rand"
	"slices"
	"strconv"
	"strings"
	"testing"

	"codicil/api"
	"codicil/loose"
	"codicil/odb"
	"codicil/rename"
)

// idOf answers the id of an object; blobId that of a blob with these bytes.
func idOf(o api.Object) api.Id {
	word := []string{"", "commit", "tree", "blob", "tag"}[o.Kind]
	return sha256.Sum256(append([]byte(word+" "+strconv.Itoa(len(o.Data))+"\x00"), o.Data...))
}

func blobId(text string) api.Id { return idOf(blob(text)) }

// blob answers a blob with these bytes, blobs some.
func blob(text string) api.Object { return api.Object{Kind: api.Blob, Data: []byte(text)} }

func blobs(texts ...string) []api.Object {
	var list []api.Object
	for _, text := range texts {
		list = append(list, blob(text))
	}
	return list
}

// own answers files of their own for objects, in order.
func own(list ...api.Object) []api.File {
	state := map[string][]byte{}
	for _, o := range list {
		p, e := loose.Pack(o)
		if e != api.OK {
			panic(fmt.Sprintf("Pack: error %d", e))
		}
		state[loose.Place(idOf(o))] = p
	}
	var files []api.File
	for _, path := range slices.Sorted(maps.Keys(state)) {
		files = append(files, api.File{Path: path, Data: state[path]})
	}
	return files
}

// packed answers files in which all objects stand in one pack.
func packed(t *testing.T, list ...api.Object) []api.File {
	t.Helper()
	files := own(list...)
	ids, _ := odb.Ids(files)
	changes, e := odb.Repack(files, ids)
	if e != api.OK {
		t.Fatalf("Repack: error %d", e)
	}
	behind, e := odb.Made(files, changes)
	if e != api.OK {
		t.Fatalf("Made: error %d", e)
	}
	return behind
}

// slot answers a slot of a path whose blob has these bytes.
func slot(path, text string) api.Slot {
	return api.Slot{Path: path, Mode: api.ModeFile, Id: blobId(text), Size: len(text), Time: len(path)}
}

// slots answers slots, by paths, of paths and texts told by turns.
func slots(told ...string) []api.Slot {
	var l []api.Slot
	for i := 0; i < len(told); i += 2 {
		l = append(l, slot(told[i], told[i+1]))
	}
	slices.SortFunc(l, func(a, b api.Slot) int { return strings.Compare(a.Path, b.Path) })
	return l
}

// filesOf answers files of their own for the texts of what slots was told.
func filesOf(told ...[]string) []api.File {
	var list []api.Object
	for _, l := range told {
		for i := 1; i < len(l); i += 2 {
			list = append(list, blob(l[i]))
		}
	}
	return own(list...)
}

// fault is something by which slots are not in form, or can't be compared; make puts it among slots with paths b to y.
type fault struct {
	what  string
	make  func(l []api.Slot) []api.Slot
	errno api.Errno
}

// faults answers one or several of each error.
func faults() []fault {
	with := func(change func(s *api.Slot)) func(l []api.Slot) []api.Slot {
		return func(l []api.Slot) []api.Slot {
			s := slot("z", "a fault")
			change(&s)
			return append(slices.Clone(l), s)
		}
	}
	ahead := func(l []api.Slot) []api.Slot { return append(slices.Clone(l), slot("a", "")) }
	return []fault{
		{"a Stage of 4", with(func(s *api.Slot) { s.Stage = 4 }), api.ErrArg},
		{"a Stage of -1", with(func(s *api.Slot) { s.Stage = -1 }), api.ErrArg},
		{"a Size", with(func(s *api.Slot) { s.Size = 1 << 32 }), api.ErrArg},
		{"a Time", with(func(s *api.Slot) { s.Time = -1 }), api.ErrArg},
		{"too many", func(l []api.Slot) []api.Slot { return append(slices.Clone(l), many("z", 4097)...) }, api.ErrLong},
		{"no path", with(func(s *api.Slot) { s.Path = "z//z" }), api.ErrName},
		{"no mode", with(func(s *api.Slot) { s.Mode = 0 }), api.ErrForm},
		{"a tree's mode", with(func(s *api.Slot) { s.Mode = api.ModeTree }), api.ErrForm},
		{"they don't rise", ahead, api.ErrForm},
		{"one twice", func(l []api.Slot) []api.Slot { return append(slices.Clone(l), slot("z", ""), slot("z", "")) }, api.ErrForm},
		{"the stage 1", with(func(s *api.Slot) { s.Stage = 1 }), api.ErrClash},
		{"the stage 2", with(func(s *api.Slot) { s.Stage = 2 }), api.ErrClash},
		{"the stage 3", with(func(s *api.Slot) { s.Stage = 3 }), api.ErrClash},
		{"a first stage", func(l []api.Slot) []api.Slot {
			return append([]api.Slot{{Path: "a", Stage: 2, Mode: api.ModeFile}}, l...)
		}, api.ErrClash},
	}
}

// many answers so many slots in order, below a folder.
func many(folder string, n int) []api.Slot {
	var l []api.Slot
	for i := range n {
		l = append(l, slot(fmt.Sprintf("%s/%04d", folder, i), folder+strconv.Itoa(i)))
	}
	return l
}

// plainStays answers how many bytes stay on the way between two lists by the words of the chapter on diff.
func plainStays(a, b []string) int {
	rest := map[[2]int]int{}
	for x := len(a); x >= 0; x-- {
		for y := len(b); y >= 0; y-- {
			n := len(a) - x + len(b) - y
			if x < len(a) && y < len(b) {
				n = 1 + min(rest[[2]int{x + 1, y}], rest[[2]int{x, y + 1}])
				if a[x] == b[y] {
					n = min(n, rest[[2]int{x + 1, y + 1}])
				}
			}
			rest[[2]int{x, y}] = n
		}
	}
	stays, x, y := 0, 0, 0
	for x < len(a) && y < len(b) {
		if a[x] == b[y] {
			stays += len(a[x])
			x, y = x+1, y+1
		} else if rest[[2]int{x + 1, y}] <= rest[[2]int{x, y + 1}] {
			x++
		} else {
			y++
		}
	}
	return stays
}

// plainLines answers the lines of a text.
func plainLines(text string) []string {
	lines := strings.SplitAfter(text, "\n")
	return slices.DeleteFunc(lines, func(line string) bool { return line == "" })
}

// plainLike answers by the chapter's words what Like does.
func plainLike(a, b string) int {
	from, to := plainLines(a), plainLines(b)
	if a == b {
		return 100
	}
	if len(from) > 1000 || len(to) > 1000 || a == "" || b == "" {
		return 0
	}
	return min(99, 200*plainStays(from, to)/(len(a)+len(b)))
}

// plainPairs answers by the chapter's words the pairs of paths with texts: over and over the best of all that are left.
func plainPairs(a, b map[string]string, least int) []rename.Pair {
	went, came := maps.Clone(a), maps.Clone(b)
	maps.DeleteFunc(went, func(path, _ string) bool { _, both := b[path]; return both })
	maps.DeleteFunc(came, func(path, _ string) bool { _, both := a[path]; return both })
	all := map[rename.Pair]int{}
	for from, text := range went {
		for to, other := range came {
			if like := plainLike(text, other); like >= least {
				all[rename.Pair{From: from, To: to, Like: like}]++
			}
		}
	}
	var pairs []rename.Pair
	for len(all) > 0 {
		var best rename.Pair
		for p := range all {
			if p.Like > best.Like || p.Like == best.Like && (p.From < best.From || p.From == best.From && p.To < best.To) {
				best = p
			}
		}
		pairs = append(pairs, best)
		maps.DeleteFunc(all, func(p rename.Pair, _ int) bool { return p.From == best.From || p.To == best.To })
	}
	slices.SortFunc(pairs, func(p, q rename.Pair) int { return strings.Compare(p.To, q.To) })
	return pairs
}

// anyText answers a text of up to n lines by chance, of few kinds; the last one may have no line feed.
func anyText(r *rand.Rand, n int) string {
	text := ""
	for range r.Intn(n + 1) {
		text += strings.Repeat(string(rune('a'+r.Intn(4))), r.Intn(4)) + "\n"
	}
	if r.Intn(3) == 0 {
		text = strings.TrimSuffix(text, "\n")
	}
	return text
}

// wantLike fails unless Like answers that number, and the chapter's words do.
func wantLike(t *testing.T, a, b string, wanted int) {
	t.Helper()
	if like := rename.Like([]byte(a), []byte(b)); like != wanted {
		t.Errorf("Like(%.60q, %.60q): %d, wanted %d", a, b, like, wanted)
	}
	if like := plainLike(a, b); like != wanted {
		t.Errorf("by the chapter's words Like(%.60q, %.60q) is %d", a, b, like)
	}
}

// wantChanges fails unless Changes answers these.
func wantChanges(t *testing.T, what string, a, b []api.Slot, wanted ...rename.Change) {
	t.Helper()
	if list, e := rename.Changes(a, b); e != api.OK || !slices.Equal(list, wanted) {
		t.Errorf("Changes, %s: %s, error %d, wanted %s", what, brief(list), e, brief(wanted))
	}
}

// wantNoChanges fails unless Changes answers that error alone.
func wantNoChanges(t *testing.T, what string, a, b []api.Slot, wanted api.Errno) {
	t.Helper()
	if list, e := rename.Changes(a, b); len(list) != 0 || e != wanted {
		t.Errorf("Changes, %s: %d, error %d, wanted error %d alone", what, len(list), e, wanted)
	}
}

// wantPairs fails unless Pairs answers these.
func wantPairs(t *testing.T, what string, files []api.File, a, b []api.Slot, least int, wanted ...rename.Pair) {
	t.Helper()
	if list, e := rename.Pairs(files, a, b, least); e != api.OK || !slices.Equal(list, wanted) {
		t.Errorf("Pairs, %s, at least %d: %s, error %d, wanted %s", what, least, brief(list), e, brief(wanted))
	}
}

// wantNoPairs fails unless Pairs answers that error alone.
func wantNoPairs(t *testing.T, what string, files []api.File, a, b []api.Slot, least int, wanted api.Errno) {
	t.Helper()
	if list, e := rename.Pairs(files, a, b, least); len(list) != 0 || e != wanted {
		t.Errorf("Pairs, %s, at least %d: %d, error %d, wanted error %d alone", what, least, len(list), e, wanted)
	}
}

// brief tells a list, cut short.
func brief(list any) string {
	told := fmt.Sprint(list)
	return told[:min(len(told), 400)]
}

// scratch writes over bytes and their spare room.
func scratch(p []byte) {
	p = p[:cap(p)]
	copy(p, bytes.Repeat([]byte{0x5a}, len(p)))
}
