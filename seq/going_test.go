package seq_test

import (
	"testing"

	"codicil/api"
	"codicil/refs"
	"codicil/repo"
)

// halted answers a repository in which a pick, or what word says, stopped at the first of three commits: it clashes at a.
func halted(word string) ([]api.File, api.Id, []api.Id) {
	files, _, tip, list := forked("a x|k same", "a ours|k same|o own", "a theirs|k same", "a theirs|b 1|k same", "a theirs|b 1|c 2|k same")
	files, _, e := plainPick(files, list, me(12))
	if e != api.OK {
		panic("it doesn't pick")
	}
	return patched(files, map[string][]byte{"seq": seqText(word, tip, list...)}), tip, list
}

// P25.3: each way in which index and worktree aren't tidy behind Continue's commit: where others are to do, that is refused;
// where none is, it is of no account.
func TestContinueTidy(t *testing.T) {
	stopped, tip, list := halted("pick")
	stopped, _ = stored(stopped, blob("both"))
	settled := working(indexed(stopped, sized(slots("a both", "k same", "o own"))), "a both", "n unknown")
	last := patched(settled, map[string][]byte{"seq": seqText("pick", tip, list[0])})
	wantStatus(t, "tidy", wantDone(t, "tidy", settled, goOn()), " ? n")
	for what, change := range map[string]func(files []api.File) []api.File{
		"a changed file":            func(files []api.File) []api.File { return working(files, "k other") },
		"a file that went":          func(files []api.File) []api.File { return without(files, "work/k") },
		"another mode of the index": func(files []api.File) []api.File { return indexed(files, slots("a* both", "k same", "o own")) },
		"the clash's text":          func(files []api.File) []api.File { return working(files, "a <<<<<<<") },
	} {
		in := change(settled)
		tidy := what == "another mode of the index"
		if _, done, e := wantPlain(t, what, in, goOn()); done != tidy || e != api.OK && e != api.ErrDirty {
			t.Errorf("%s: %v, error %d", what, done, e)
		}
		before, _ := repo.Work(in)
		behind := wantDone(t, what+", and it is the last one", change(last), goOn())
		if now, _ := repo.Work(behind); !sameFiles(now, before) {
			t.Errorf("%s: the worktree %s", what, differing(now, before))
		}
		// The commit is dropped: then the tip is as it was.
		dropped := change(working(indexed(settled, slots("a ours", "k same", "o own")), "a ours"))
		if _, done, e := wantPlain(t, what+", dropped", dropped, goOn()); done == (e == api.ErrDirty) {
			t.Errorf("%s, dropped: %v, error %d", what, done, e)
		}
	}
	wantError(t, "dirty, and no next commit", patched(working(settled, "k other"), map[string][]byte{"seq": seqText("pick", tip, list[0], api.Id{1})}), goOn(), api.ErrDirty)
	wantError(t, "no next commit", patched(settled, map[string][]byte{"seq": seqText("pick", tip, list[0], api.Id{1})}), goOn(), api.ErrNone)
	wantError(t, "an unknown file where the next one comes", working(settled, "b unknown"), goOn(), api.ErrDirty)
	wantError(t, "a folder where the next one comes", working(settled, "b/d unknown"), goOn(), api.ErrExists)
}

// P25.3: Continue's commit, by who, of the index as it is; nothing new is dropped, and then nobody is asked for.
func TestContinue(t *testing.T) {
	for _, word := range []string{"pick", "rebase"} {
		stopped, tip, list := halted(word)
		one := patched(stopped, map[string][]byte{"seq": seqText(word, api.Id{7}, list[0])})
		settled := working(indexed(one, sized(slots("a both", "q new"))), "k changed")
		behind := wantDone(t, word, settled, goOn())
		wantCommit(t, word, behind, tipOf(behind), api.Snapshot{Parents: ids(tip), Author: you(5), Committer: me(14), Message: "pick0"}, "a both", "q new")
		wantNotes(t, word, behind, mainName, tip, tipOf(behind), word)
		index, _ := textOf(settled, "index")
		if now, _ := textOf(behind, "index"); now != index {
			t.Errorf("%s: the index has changed", word)
		}
		wantError(t, "no ident", settled, goOnBy(nobody()), api.ErrName)
		same := indexed(settled, sized(slots("a ours", "k same", "o own")))
		dropped := wantDone(t, "nothing new", same, goOnBy(nobody()))
		if !sameFiles(dropped, without(same, "seq")) {
			t.Errorf("nothing new: it %s", differing(dropped, without(same, "seq")))
		}
		wantDone(t, "nothing new, and no commit", without(same, placeOf(list[0])), goOn())
		wantError(t, "no commit", without(settled, placeOf(list[0])), goOn(), api.ErrNone)
		wantError(t, "no tip's commit", without(settled, placeOf(tip)), goOn(), api.ErrNone)
		blobs := patched(settled, map[string][]byte{"seq": seqText(word, tip, idOf(blob("ours")))})
		wantError(t, "it is no commit", blobs, goOn(), api.ErrType)
		wantError(t, "a folder of another one", indexed(one, slots("a x", "a/b x")), goOn(), api.ErrExists)
		wantError(t, "a stage", indexed(without(one, placeOf(tip)), slots("3:a x")), goOnBy(nobody()), api.ErrClash)
		// Where the branch is gone there is no parent.
		unborn := referring(settled, api.Ref{Name: mainName})
		behind = wantDone(t, "no tip", unborn, goOn())
		wantCommit(t, "no tip", behind, tipOf(behind), api.Snapshot{Author: you(5), Committer: me(14), Message: "pick0"}, "a both", "q new")
		wantDone(t, "no tip, nothing new", indexed(unborn, nil), goOn())
	}
}

// P25.3: Skip makes index and worktree the tip's, whatever they have of what the index names.
func TestSkip(t *testing.T) {
	stopped, tip, list := halted("pick")
	for what, in := range map[string][]api.File{
		"as it stopped":       stopped,
		"settled":             working(indexed(stopped, slots("a both", "k same", "o own")), "a both"),
		"changed":             working(stopped, "k changed", "o other"),
		"added":               working(indexed(stopped, slots("2:a ours", "3:a theirs", "k same", "p/q new")), "p/q new"),
		"gone":                indexed(without(without(stopped, "work/a"), "work/k"), nil),
		"a folder of its own": working(indexed(without(stopped, "work/a"), slots("a/b new")), "a/b new"),
	} {
		behind := wantDone(t, what, working(in, "n unknown"), skip())
		wantIndex(t, what, behind, "a ours", "b 1", "c 2", "k same", "o own")
		wantStatus(t, what, behind, " ? n")
		if l, _ := repo.Index(behind); l[3].Size != 0 || l[3].Time != 0 {
			t.Errorf("%s: the index has %v", what, l)
		}
	}
	last := patched(stopped, map[string][]byte{"seq": seqText("rebase", tip, list[0])})
	behind := wantDone(t, "the last one", last, skipBy(nobody()))
	wantTip(t, "the last one", behind, tip)
	wantStatus(t, "the last one", behind)
	before, _ := refs.Notes(last, "HEAD")
	if now, _ := refs.Notes(behind, "HEAD"); len(now) != len(before) {
		t.Errorf("%d notes, there were %d", len(now), len(before))
	}
	wantError(t, "no tip's commit", without(last, placeOf(tip)), skip(), api.ErrNone)
	wantError(t, "no blob", without(last, place("own")), skip(), api.ErrNone)
	wantError(t, "a folder", working(indexed(without(last, "work/a"), slots("a/b new")), "a/c unknown"), skip(), api.ErrExists)
	wantError(t, "no next commit", patched(stopped, map[string][]byte{"seq": seqText("pick", tip, list[0], api.Id{1})}), skip(), api.ErrNone)
	wantError(t, "no ident", stopped, skipBy(nobody()), api.ErrName)
	unborn := wantDone(t, "no tip", referring(last, api.Ref{Name: mainName}), skip())
	wantIndex(t, "no tip", unborn)
	wantWork(t, "no tip", unborn)
}

// P25.4: Abort makes branch, index and worktree what the file seq says, wherever they are.
func TestAbort(t *testing.T) {
	stopped, tip, list := halted("rebase")
	for what, in := range map[string][]api.File{
		"as it stopped":         stopped,
		"changed":               working(indexed(stopped, slots("a both", "o other", "p new")), "a both", "k changed", "p new"),
		"the branch elsewhere":  tipped(stopped, list[2]),
		"the branch gone":       referring(stopped, api.Ref{Name: mainName}),
		"of a merge":            patched(stopped, map[string][]byte{"seq": seqText("merge", tip, list[0])}),
		"what is to do is gone": without(without(stopped, placeOf(list[0])), placeOf(list[1])),
	} {
		was := tipOf(in)
		behind := wantDone(t, what, working(in, "n unknown"), abort())
		wantTip(t, what, behind, tip)
		if wantIndex(t, what, behind, "a ours", "k same", "o own"); what != "changed" {
			wantStatus(t, what, behind, " ? n")
		}
		if was != tip {
			wantNotes(t, what, behind, mainName, was, tip, "abort")
		}
	}
	wantError(t, "no commit at the beginning", without(stopped, placeOf(tip)), abort(), api.ErrNone)
	wantError(t, "none at the beginning", patched(stopped, map[string][]byte{"seq": seqText("pick", api.Id{}, list...)}), abort(), api.ErrNone)
	wantError(t, "a blob at the beginning", patched(stopped, map[string][]byte{"seq": seqText("pick", idOf(blob("own")), list...)}), abort(), api.ErrType)
	wantError(t, "no blob", without(stopped, place("own")), abort(), api.ErrNone)
	wantError(t, "a folder", working(without(stopped, "work/a"), "a/c unknown"), abort(), api.ErrExists)
	wantError(t, "no ident", stopped, abortBy(nobody()), api.ErrName)
}

// The chapter's example, and DOC.md's examples 5 and 6, by the commands of chapter 24.
func TestExamples(t *testing.T) {
	files := begun()
	do := func(made []api.File, e api.Errno) {
		t.Helper()
		if e != api.OK {
			t.Fatalf("error %d", e)
		}
		files = made
	}
	save := func(path, text, message string) api.Id {
		t.Helper()
		do(repo.Write(files, path, []byte(text)))
		do(repo.Add(files, path, 3))
		made, id, e := repo.Commit(files, me(4), message)
		do(made, e)
		return id
	}
	one := save("a", "x\n", "one")
	do(repo.Branch(files, "b", one, me(5)))
	two := save("c", "c\n", "two")
	do(repo.Switch(files, "b", me(6)))
	three := save("d", "d\n", "three")
	behind := wantDone(t, "unlike files", files, merge(two))
	c := api.Snapshot{Parents: ids(three, two), Author: me(11), Committer: me(11), Message: "merge " + digits(two)}
	tip := tipOf(behind)
	wantCommit(t, "unlike files", behind, tip, c, "a x\n", "c c\n", "d d\n")
	four := save("a", "y\n", "four")
	do(repo.Switch(files, "main", me(7)))
	five := save("a", "z\n", "five")
	stopped := wantStopped(t, "one line", files, merge(four), "merge", five, four)
	wantStatus(t, "one line", stopped, "UM a", "A  d")
	wantSameView(t, "abort", wantDone(t, "abort", stopped, abort()), files)
	files = stopped
	do(repo.Write(files, "a", []byte("w\n")))
	do(repo.Add(files, "a", 8))
	done := wantDone(t, "continue", files, goOn())
	wantStatus(t, "continue", done)
	wantCommit(t, "continue", done, tipOf(done), api.Snapshot{Parents: ids(five, four), Author: me(14), Committer: me(14), Message: "merge " + digits(four)}, "a w\n", "c c\n", "d d\n")
}
