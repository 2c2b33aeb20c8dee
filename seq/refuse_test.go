package seq_test

import (
	"fmt"
	"slices"
	"strings"
	"testing"

	"codicil/api"
	"codicil/trees"
)

// beginnings answers the commands that begin with a commit.
func beginnings(who api.Ident, id api.Id) []command {
	return []command{mergeBy(who, id), pickBy(who, id), rebaseBy(who, id)}
}

// untidy answers files whose index or worktree isn't tidy, in each way; they have the slots a, k and m*.
func untidy(files []api.File) map[string][]api.File {
	return map[string][]api.File{
		"another file":             working(files, "a other"),
		"a file without bytes":     working(files, "a "),
		"a file that went":         without(files, "work/k"),
		"a file that is too long":  having(files, "work/k", strings.Repeat("x", api.MaxData+1)),
		"a folder of its name":     working(without(files, "work/a"), "a/b x"),
		"another id":               indexed(files, slots("a other", "k same", "m* mode")),
		"another id, and the file": working(indexed(files, slots("a other", "k same", "m* mode")), "a other"),
		"another mode":             indexed(files, slots("a* x", "k same", "m* mode")),
		"the other mode":           indexed(files, slots("a x", "k same", "m mode")),
		"a link":                   indexed(files, slots("a x", "k same", "m@ mode")),
		"a slot less":              indexed(files, slots("a x", "m* mode")),
		"the last slot less":       indexed(files, slots("a x", "k same")),
		"no slots":                 indexed(files, nil),
		"a slot more":              indexed(files, slots("a x", "b y", "k same", "m* mode")),
		"a slot more behind":       working(indexed(files, slots("a x", "k same", "m* mode", "n x")), "n x"),
		"a stage 1":                indexed(files, slots("1:a x", "k same", "m* mode")),
		"a stage 2":                indexed(files, slots("2:a x", "k same", "m* mode")),
		"all stages":               indexed(files, slots("a x", "1:k same", "2:k same", "3:k same", "m* mode")),
		"another path":             indexed(files, slots("a x", "l same", "m* mode")),
	}
}

// Merge, Pick, Rebase and Pop are refused where index or worktree aren't tidy; what no slot names is of no account.
func TestTidy(t *testing.T) {
	files, _, _, theirs := twoSides("a x|k same|m* mode", "a x|k same|m* mode", "a x|c z|k same|m* mode")
	files = referring(files, api.Ref{Name: topName, Id: theirs})
	for what, in := range untidy(files) {
		for _, c := range append(beginnings(nobody(), theirs), popBy(nobody())) {
			wantError(t, what, in, c, api.ErrDirty)
		}
	}
	for what, in := range map[string][]api.File{
		"all is well":            files,
		"an unknown file":        working(files, "n x"),
		"Size and Time":          indexed(files, sized(slots("a x", "k same", "m* mode"))),
		"other files":            having(having(files, "other/file", "x"), "zzz", "y"),
		"no blobs":               without(files, place("x")),
		"an unknown long path":   working(files, long(151)+" x"),
		"an unknown long file":   having(files, "work/n", strings.Repeat("x", api.MaxData+1)),
		"a file beside a folder": working(files, "a.b x", "kk x"),
	} {
		for _, c := range append(beginnings(me(30), theirs), pop()) {
			wantDone(t, what, in, c)
		}
	}
}

// The errors of Merge, Pick and Rebase, each beside those that come behind it.
func TestBeginErrors(t *testing.T) {
	files, from, ours, theirs := twoSides("a x|k same", "a y|k same", "a x|c z|k same")
	dirty := working(files, "a other")
	unborn := referring(dirty, api.Ref{Name: mainName})
	wantError(t, "nothing to pick", unborn, pickBy(nobody()), api.ErrArg)
	wantError(t, "too many to pick", unborn, pickBy(nobody(), make([]api.Id, 257)...), api.ErrLong)
	tree := rootOf(files, theirs)
	bad, noForm := stored(unborn, api.Object{Kind: api.Commit, Data: []byte("tree x\n")})
	for _, one := range []struct {
		id api.Id
		e  api.Errno
	}{{api.Id{}, api.ErrNone}, {api.Id{1}, api.ErrNone}, {tree, api.ErrType}, {idOf(blob("x")), api.ErrType}, {noForm[0], api.ErrForm}} {
		for _, c := range beginnings(nobody(), one.id) {
			wantError(t, "no commit", bad, c, one.e)
		}
		wantError(t, "one of several is none", bad, pickBy(nobody(), theirs, one.id, api.Id{2}), one.e)
	}
	wantError(t, "the first of several", bad, pickBy(nobody(), theirs, tree, api.Id{2}), api.ErrType)
	wantError(t, "the first of several", bad, pickBy(nobody(), theirs, api.Id{2}, tree), api.ErrNone)
	for _, c := range beginnings(nobody(), theirs) {
		wantError(t, "no tip", unborn, c, api.ErrNone)
		wantError(t, "a tip with a Target", referring(dirty, api.Ref{Name: mainName, Target: "refs/heads/b"}), c, api.ErrNone)
		wantError(t, "the tip isn't there", tipped(dirty, api.Id{9}), c, api.ErrNone)
		wantError(t, "the tip is a blob", tipped(dirty, idOf(blob("x"))), c, api.ErrType)
		wantError(t, "the tip's tree isn't there", without(dirty, placeOf(rootOf(files, ours))), c, api.ErrNone)
		wantError(t, "dirty", dirty, c, api.ErrDirty)
	}
	// Not tidy ahead of that there is nothing to do, and of a history that is broken.
	for _, id := range ids(ours, from) {
		wantError(t, "dirty", dirty, merge(id), api.ErrDirty)
	}
	wantError(t, "dirty", dirty, rebase(ours), api.ErrDirty)
	for _, c := range []command{merge(theirs), rebase(theirs)} {
		wantError(t, "broken", without(files, placeOf(from)), c, api.ErrNone)
		wantError(t, "broken and dirty", without(dirty, placeOf(from)), c, api.ErrDirty)
	}
}

// The errors of a step, in their order: the commit, the three lists of slots, the merge, what would be lost, the commit that
// comes of it, index, worktree and reference.
func TestStepErrors(t *testing.T) {
	files, from, _, theirs := twoSides("a x|k same", "a y|k same", "a x|c z|k same")
	steps := func(who api.Ident, id api.Id) []command { return []command{pickBy(who, id), popBy(who)} }
	topped := func(files []api.File, id api.Id) []api.File { return referring(files, api.Ref{Name: topName, Id: id}) }
	files = topped(files, theirs)
	lost := working(files, "c unknown")
	for _, c := range steps(nobody(), theirs) {
		wantError(t, "no base", without(lost, placeOf(from)), c, api.ErrNone)
		wantError(t, "no base's tree", without(lost, placeOf(rootOf(files, from))), c, api.ErrNone)
		wantError(t, "no tree", without(lost, placeOf(rootOf(files, theirs))), c, api.ErrNone)
		wantError(t, "the merge's error", without(lost, place("z")), c, api.ErrNone)
		wantError(t, "lost", lost, c, api.ErrDirty)
		wantError(t, "no ident", files, c, api.ErrName)
	}
	for _, c := range steps(me(30), theirs) {
		wantError(t, "no blob", without(working(files, "c/d unknown"), place("z")), c, api.ErrNone)
		wantError(t, "a folder", working(files, "c/d unknown"), c, api.ErrExists)
	}
	// Pick makes a commit ahead of what comes into the worktree, Pop's reference comes behind it.
	wantError(t, "a folder, no ident", working(files, "c/d unknown"), pickBy(nobody(), theirs), api.ErrName)
	wantError(t, "a folder, no ident", working(files, "c/d unknown"), popBy(nobody()), api.ErrExists)
	clashing, id := grown(files, "clashing", ids(from), "a z", "c/d z", "k same")
	clashing = topped(clashing, id)
	for _, c := range steps(nobody(), id) {
		wantError(t, "no text of ours", without(working(clashing, "c/d unknown"), place("y")), c, api.ErrNone)
		wantError(t, "lost, with a clash", without(working(clashing, "c/d unknown"), place("z")), c, api.ErrNone)
		wantError(t, "lost, with a clash", working(clashing, "c/d unknown"), c, api.ErrDirty)
		wantError(t, "a folder, with a clash", working(clashing, "c unknown"), c, api.ErrExists)
	}
	for _, text := range []string{"x", "z"} {
		far, id := grown(files, "far", ids(from), "a "+text, "k same", long(151)+" x")
		for _, c := range steps(me(30), id) {
			wantError(t, "a long path", topped(far, id), c, api.ErrName)
		}
	}
	// A blob that is a tree, as it came by hand.
	l := slots("a x", "c z", "k same")
	l[1].Id = rootOf(files, from)
	objects, root, _ := trees.Build(l)
	odd, id := pointing(files, "odd", ids(from), root, objects...)
	for _, c := range steps(me(30), id) {
		wantError(t, "a tree as a blob", topped(odd, id), c, api.ErrType)
	}
}

// Paths that clash have texts that come into the worktree: they are asked as slots' paths are.
func TestClashComing(t *testing.T) {
	path := long(151)
	files, _, _, theirs := twoSides("a x|"+path+" 1", "a x|"+path+" 2", "a x|"+path+" 3")
	wantError(t, "a long path that clashes", files, merge(theirs), api.ErrName)
	files, _, _, theirs = twoSides("a x|"+path+" 1", "a x", "a x|"+path+" 3")
	wantError(t, "a long path that comes by a clash", files, merge(theirs), api.ErrName)
	files, _, _, theirs = twoSides("a x|"+path+" 1", "a x|"+path+" 1", "a x|b y|"+path+" 1")
	wantDone(t, "a long path that stays", files, merge(theirs))
	files, _, ours, theirs := twoSides("a x|b/c 1", "a x", "a x|b/c 3")
	wantError(t, "a folder of a path that clashes", working(files, "b unknown"), merge(theirs), api.ErrExists)
	wantError(t, "a path in a path that clashes", working(files, "b/c/d unknown"), merge(theirs), api.ErrExists)
	wantStopped(t, "a neighbour", working(files, "b/d unknown"), merge(theirs), "merge", ours, theirs)
}

// What a later step is refused for leaves nothing of earlier ones.
func TestNothingOfEarlierSteps(t *testing.T) {
	files, _, _, list := forked("a x", "a x|o own", "a x|b 1", "a x|b 1|c 2")
	files, onto := grown(files, "onto", nil, "a x")
	onBranch := standing(without(files, "work/o"), list[1], "a x", "b 1", "c 2")
	for what, spoil := range map[string]func(files []api.File) []api.File{
		"no blob": func(files []api.File) []api.File { return without(files, place("2")) },
		"no tree": func(files []api.File) []api.File { return without(files, placeOf(rootOf(files, list[1]))) },
	} {
		wantError(t, what, spoil(files), pick(list...), api.ErrNone)
		if _, _, e := wantPlain(t, what, spoil(onBranch), rebase(onto)); e != api.ErrNone {
			t.Errorf("%s: error %d", what, e)
		}
	}
	wantError(t, "an unknown file", working(files, "c unknown"), pick(list...), api.ErrDirty)
	wantError(t, "a folder", working(files, "c/d unknown"), pick(list...), api.ErrExists)
	stopped, tip, picks := halted("pick")
	stopped, _ = stored(stopped, blob("both"))
	settled := working(indexed(stopped, slots("a both", "k same", "o own")), "a both")
	for what, c := range map[string]command{"Continue": goOn(), "Skip": skip()} {
		wantError(t, what, working(settled, "c unknown"), c, api.ErrDirty)
		wantError(t, what, without(settled, place("2")), c, api.ErrNone)
		gone := patched(settled, map[string][]byte{"seq": seqText("rebase", tip, picks[0], picks[1], api.Id{8})})
		wantError(t, what, gone, c, api.ErrNone)
	}
}

// As many slots as an index has, and one more; texts with more lines than are compared; one that is too long for a blob.
func TestTooMany(t *testing.T) {
	var own, others []string
	for i := range api.MaxEntries / 2 {
		own = append(own, fmt.Sprintf("f%04d x", i))
		others = append(others, fmt.Sprintf("g%04d x%d", i, i))
	}
	files, a := grown(begun(), "from", nil)
	files, b := grown(files, "ours", ids(a), own...)
	files, most := grown(files, "most", ids(a), others...)
	files, over := grown(files, "over", ids(a), append(others, "h x")...)
	files = standing(files, b)
	for _, one := range own {
		path, _, _ := strings.Cut(one, " ")
		files = append(files, api.File{Path: "work/" + path, Data: []byte("x")})
	}
	slices.SortFunc(files, func(a, b api.File) int { return strings.Compare(a.Path, b.Path) })
	files = indexed(files, slots(own...))
	wantDone(t, "most", files, alone(merge(most)))
	wantError(t, "over", files, alone(merge(over)), api.ErrLong)
	many := strings.Repeat("x\n", api.MaxLines+1)
	in, _, _, theirs := twoSides("a x", "a "+many, "a y")
	wantError(t, "many lines", in, merge(theirs), api.ErrLong)
	wantError(t, "many lines", in, pick(theirs), api.ErrLong)
	// What comes of both texts just fits with its header, or it doesn't.
	for more, e := range map[string]api.Errno{"": api.OK, "x": api.ErrLong} {
		half := strings.Repeat("x", api.MaxData/2-8)
		in, _, _, theirs = twoSides("a 1\n2\n3\n", "a "+half+"\n2\n3\n", "a 1\n2\n"+half+more)
		if _, done, errno := wantPlain(t, "a long text", in, merge(theirs)); errno != e || done != (e == api.OK) {
			t.Errorf("a long text: %v, error %d, wanted error %d", done, errno, e)
		}
	}
}
