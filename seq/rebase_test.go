package seq_test

import (
	"fmt"
	"slices"
	"testing"

	"codicil/api"
	"codicil/base"
)

// apart answers a repository whose branch has commits of its own upon from; onto's are beside them, both in a row.
func apart(from string, own, others []string) ([]api.File, api.Id, []api.Id, []api.Id) {
	files, a := grown(begun(), "from", nil, lines(from)...)
	files, theirs := chain(files, "theirs", ids(a), others...)
	files, ours := chain(files, "own", ids(a), own...)
	last := len(ours) - 1
	return standing(files, ours[last], lines(own[last])...), a, ours, theirs
}

// P25.2: the branch's own commits, the first one first, upon another one.
func TestRebase(t *testing.T) {
	files, _, ours, theirs := apart("a x|m same", []string{"a x|b 1|m same", "a x|b 2|c 1|m same", "b 2|c 1|m same"}, []string{"a x|m same|o own", "a x|m same|o new"})
	tip, onto := ours[2], theirs[1]
	behind := wantDone(t, "rebase", working(files, "n unknown"), rebase(onto))
	wantIndex(t, "rebase", behind, "b 2", "c 1", "m same", "o new")
	wantStatus(t, "rebase", behind, " ? n")
	if got := messages(behind, 9); !slices.Equal(got, []string{"own2", "own1", "own0", "theirs1", "theirs0", "from"}) {
		t.Errorf("the messages are %q", got)
	}
	wantNotes(t, "rebase", behind, mainName, tip, tipOf(behind), "rebase", "rebase", "rebase", "rebase")
	wantNotes(t, "rebase", behind, "HEAD", tip, tipOf(behind), "rebase", "rebase", "rebase", "rebase")
	parent, _ := base.Commit(behind, tipOf(behind))
	wantCommit(t, "rebase", behind, tipOf(behind), api.Snapshot{Parents: parent.Parents, Author: you(4), Committer: me(13), Message: "own2"}, "b 2", "c 1", "m same", "o new")
	// The same commits once more, by the same one at the same time, are the same.
	wantTip(t, "again", wantDone(t, "again", behind, rebase(onto)), tipOf(behind))
	wantError(t, "no ident", files, rebaseBy(nobody(), onto), api.ErrName)
	wantError(t, "an unknown file is there", working(files, "o new"), rebase(onto), api.ErrDirty)
	wantError(t, "a folder is there", working(files, "o/p new"), rebase(onto), api.ErrExists)
}

// P25.2: with nothing to do: onto is an ancestor, or the tip is one, or what the branch has of its own are merges.
func TestRebaseNothing(t *testing.T) {
	files, list := chain(begun(), "c", nil, "a x", "a y", "a y|b z")
	behind := standing(files, list[1], "a y")
	for _, id := range ids(list[1]) {
		wantError(t, "the tip", behind, rebaseBy(nobody(), id), api.ErrSame)
	}
	ahead := wantDone(t, "ahead", behind, rebase(list[2]))
	wantTip(t, "ahead", ahead, list[2])
	wantStatus(t, "ahead", ahead)
	wantNotes(t, "ahead", ahead, mainName, list[1], list[2], "rebase")
	wantError(t, "no ident", behind, rebaseBy(nobody(), list[2]), api.ErrName)
	files, merged := grown(files, "merged", ids(list[2], list[0]), "a y", "b merged")
	files, twice := grown(files, "twice", ids(merged, list[1]), "a y", "b twice")
	behind = standing(files, twice, "a y", "b twice")
	for _, id := range ids(list[2], merged, list[1]) {
		todo := id == list[1]
		if _, _, e := wantPlain(t, "merges", behind, rebase(id)); (e == api.ErrSame) == todo {
			t.Errorf("merges: error %d", e)
		}
	}
	// What is ahead of the merges is onto's, too, but onto isn't the branch's: the branch goes there.
	files, other := grown(files, "other", ids(list[2]), "a y", "b z", "c w")
	behind = standing(files, twice, "a y", "b twice")
	gone := wantDone(t, "merges alone", behind, rebase(other))
	wantTip(t, "merges alone", gone, other)
	wantStatus(t, "merges alone", gone)
}

// P25.2: onto an ancestor the same commits are made once more, by who.
func TestRebaseAncestor(t *testing.T) {
	files, list := chain(begun(), "c", nil, "a x", "a y", "a z|b w")
	files = standing(files, list[2], "a z", "b w")
	behind := wantDone(t, "an ancestor", files, rebase(list[0]))
	if got := messages(behind, 9); !slices.Equal(got, []string{"c2", "c1", "c0"}) || tipOf(behind) == list[2] {
		t.Errorf("the messages are %q", got)
	}
	wantStatus(t, "an ancestor", behind)
	wantNotes(t, "an ancestor", behind, mainName, list[2], tipOf(behind), "rebase", "rebase", "rebase")
	// One that has nothing in common has all done once more, the root commit, too.
	files, other := grown(files, "other", nil, "o own")
	behind = wantDone(t, "nothing in common", files, rebase(other))
	wantIndex(t, "nothing in common", behind, "a z", "b w", "o own")
	if got := messages(behind, 9); !slices.Equal(got, []string{"c2", "c1", "c0", "other"}) {
		t.Errorf("the messages are %q", got)
	}
}

// P25.2: merges are passed over; the commits on both their sides are done, and ones whose change is there are dropped.
func TestRebasePastMerges(t *testing.T) {
	files, a := grown(begun(), "a", nil, "a x")
	files, left := grown(files, "left", ids(a), "a x", "l 1")
	files, right := grown(files, "right", ids(a), "a x", "r 1")
	files, same := grown(files, "same", ids(right), "a new", "r 1")
	files, merged := grown(files, "merged", ids(left, same), "a new", "l 1", "m evil", "r 1")
	files, tip := grown(files, "tip", ids(merged), "a new", "l 1", "m evil", "r 1", "t 1")
	files, onto := grown(files, "onto", ids(a), "a new", "o own")
	files = standing(files, tip, "a new", "l 1", "m evil", "r 1", "t 1")
	behind := wantDone(t, "past merges", files, rebase(onto))
	wantIndex(t, "past merges", behind, "a new", "l 1", "o own", "r 1", "t 1")
	got := messages(behind, 9)
	if len(got) != 5 || got[0] != "tip" || got[3] != "onto" || !slices.Contains(got, "left") || !slices.Contains(got, "right") {
		t.Errorf("the messages are %q", got)
	}
	wantStatus(t, "past merges", behind)
}

// P25.2, P25.3: a rebase that stops, at each of its commits, and goes on, is skipped, or taken back: DOC.md's example 8.
func TestRebaseStops(t *testing.T) {
	for at := range 3 {
		own := []string{"a x|b 0", "a x|b 0|c 1", "a x|b 0|c 1|d 2"}
		for i := at; i < 3; i++ {
			own[i] = "a ours" + own[i][len("a x"):]
		}
		files, _, ours, theirs := apart("a x", own, []string{"a theirs|o own"})
		what, onto, tip := fmt.Sprint("at ", at), theirs[0], ours[2]
		files = working(files, "n unknown")
		stopped := wantStopped(t, what, files, rebase(onto), "rebase", tip, ours[at:]...)
		if got := messages(stopped, 9); len(got) != 2+at {
			t.Errorf("%s: the messages are %q", what, got)
		}
		wantStatus(t, what, stopped, "UM a", fmt.Sprintf("A  %c", 'b'+at), " ? n")
		if word, todo := wantTodo(t, what, stopped); word != "rebase" || len(todo) != 3-at {
			t.Errorf("%s: Todo is %q, %d", what, word, len(todo))
		}
		skipped := wantDone(t, what, stopped, skip())
		if got := messages(skipped, 9); len(got) != 4 || slices.Contains(got, fmt.Sprint("own", at)) {
			t.Errorf("%s: skipped, the messages are %q", what, got)
		}
		back := wantDone(t, what, stopped, abort())
		wantSameView(t, what, back, files)
		wantNotes(t, what, back, mainName, tipOf(stopped), tip, "abort")
		stopped, _ = stored(stopped, blob("both"))
		all := append([]string{"a both"}, lines(own[at])[1:]...)
		settled := working(indexed(stopped, slots(append(all, "o own")...)), "a both")
		behind := wantDone(t, what, settled, goOn())
		if got := messages(behind, 9); len(got) != 5 || got[2-at] != fmt.Sprint("own", at) {
			t.Errorf("%s: the messages are %q", what, got)
		}
		wantStatus(t, what, behind, " ? n")
		wantNotes(t, what, behind, mainName, tip, tipOf(behind), "rebase", "rebase", "rebase", "rebase")
	}
}

// P25.2: MaxSteps commits of its own, and one more; with that many a worktree that isn't tidy comes behind it.
func TestRebaseMany(t *testing.T) {
	texts := []string{"a x"}
	for i := range api.MaxSteps + 1 {
		texts = append(texts, fmt.Sprintf("a x|b %d", i))
	}
	files, list := chain(begun(), "c", nil, texts...)
	files, other := grown(files, "other", ids(list[0]), "a new")
	last := api.MaxSteps
	most := standing(files, list[last], lines(texts[last])...)
	behind := wantDone(t, "most", most, alone(rebase(other)))
	if got, e := base.Walk(behind, ids(tipOf(behind))); len(got) != api.MaxSteps+2 || e != api.OK {
		t.Errorf("%d commits, error %d", len(got), e)
	}
	wantStatus(t, "most", behind)
	over := standing(files, list[last+1], lines(texts[last+1])...)
	for _, in := range [][]api.File{over, working(over, "a other"), indexed(over, slots("1:a x"))} {
		wantError(t, "one more", in, rebaseBy(nobody(), other), api.ErrLong)
	}
	wantError(t, "no commit", over, rebase(idOf(blob("x"))), api.ErrType)
	wantError(t, "just as many", working(most, "a other"), rebase(other), api.ErrDirty)
	// A history that is broken has no count: what isn't tidy comes ahead of its error.
	broken := without(over, placeOf(list[0]))
	wantError(t, "broken", broken, rebase(other), api.ErrNone)
	wantError(t, "broken", working(broken, "a other"), rebase(other), api.ErrDirty)
}
