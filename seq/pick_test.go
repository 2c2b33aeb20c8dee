package seq_test

import (
	"fmt"
	"slices"
	"strings"
	"testing"

	"codicil/api"
	"codicil/base"
	"codicil/refs"
	"codicil/repo"
)

// lines answers what is told, one a line.
func lines(text string) []string {
	if text == "" {
		return nil
	}
	return strings.Split(text, "|")
}

// chain answers files with commits, each the one ahead's child, the first one that of parents, which have the slots that
// are told; and their ids.
func chain(files []api.File, what string, parents []api.Id, list ...string) ([]api.File, []api.Id) {
	var all []api.Id
	for i, text := range list {
		var id api.Id
		files, id = grown(files, fmt.Sprint(what, i), parents, lines(text)...)
		all, parents = append(all, id), ids(id)
	}
	return files, all
}

// messages answers the messages of the tip and its first parents, the newest first, and n of them.
func messages(files []api.File, n int) []string {
	var list []string
	for id := tipOf(files); len(list) < n && id != (api.Id{}); {
		c, e := base.Commit(files, id)
		if e != api.OK {
			break
		}
		list = append(list, c.Message)
		id = api.Id{}
		if len(c.Parents) > 0 {
			id = c.Parents[0]
		}
	}
	return list
}

// forked answers a repository whose tip, of the slots ours, has the parent from; and commits beside it, from's children in
// a row.
func forked(from, ours string, list ...string) ([]api.File, api.Id, api.Id, []api.Id) {
	files, a := grown(begun(), "from", nil, lines(from)...)
	files, all := chain(files, "pick", ids(a), list...)
	files, tip := grown(files, "ours", ids(a), lines(ours)...)
	return standing(files, tip, lines(ours)...), a, tip, all
}

// P25.2: one commit: the same change upon the tip, with its author and message, by who.
func TestPickOne(t *testing.T) {
	files, _, tip, list := forked("a 1\n2\n3\n|b x|c y|m same", "a 0\n1\n2\n3\n|b x|c y|m same", "a 1\n2\n3\n4\n|c* y|d/e z|m same")
	behind := wantDone(t, "one", working(files, "n unknown"), pick(list[0]))
	all := []string{"a 0\n1\n2\n3\n4\n", "c* y", "d/e z", "m same"}
	wantCommit(t, "one", behind, tipOf(behind), api.Snapshot{Parents: ids(tip), Author: you(5), Committer: me(12), Message: "pick0"}, all...)
	wantIndex(t, "one", behind, all...)
	wantWork(t, "one", behind, "a 0\n1\n2\n3\n4\n", "c y", "d/e z", "m same", "n unknown")
	wantStatus(t, "one", behind, " ? n")
	wantNotes(t, "one", behind, mainName, tip, tipOf(behind), "pick")
	wantNotes(t, "one", behind, "HEAD", tip, tipOf(behind), "pick")
	l, _ := repo.Index(behind)
	for i, wanted := range []int{0, 0, 0, 7} {
		if l[i].Size != wanted || (l[i].Time != 0) != (wanted != 0) {
			t.Errorf("the slot of %s has Size %d, Time %d", l[i].Path, l[i].Size, l[i].Time)
		}
	}
	wantError(t, "no ident", files, pickBy(nobody(), list[0]), api.ErrName)
	wantError(t, "an unknown file is there", working(files, "d/e z"), pick(list[0]), api.ErrDirty)
	wantError(t, "a folder is there", working(files, "d/e/f z"), pick(list[0]), api.ErrExists)
}

// P25.2: several commits, each upon the one ahead, with a note for each; also the same one twice, and in another order.
func TestPickSeveral(t *testing.T) {
	files, _, tip, list := forked("a x", "a x|o own", "a x|b 1", "a x|b 1|c 2", "a x|c 2|d 3")
	behind := wantDone(t, "three", files, pick(list...))
	wantIndex(t, "three", behind, "a x", "c 2", "d 3", "o own")
	wantStatus(t, "three", behind)
	if got := messages(behind, 5); !slices.Equal(got, []string{"pick2", "pick1", "pick0", "ours", "from"}) {
		t.Errorf("the messages are %q", got)
	}
	wantNotes(t, "three", behind, mainName, tip, tipOf(behind), "pick", "pick", "pick")
	wantNotes(t, "three", behind, "HEAD", tip, tipOf(behind), "pick", "pick", "pick")
	twice := wantDone(t, "twice", files, pick(list[0], list[0], list[1], list[0]))
	if got := messages(twice, 3); !slices.Equal(got, []string{"pick1", "pick0", "ours"}) {
		t.Errorf("the messages are %q", got)
	}
	wantIndex(t, "another order", wantDone(t, "another order", files, pick(list[1], list[0])), "a x", "b 1", "c 2", "o own")
}

// P25.2: commits whose change is there already are dropped: nothing of them is left.
func TestPickDropped(t *testing.T) {
	files, _, tip, list := forked("a x|b y", "a new|b y", "a new|b y", "a new|b y|c z", "a new|b y")
	behind := wantDone(t, "dropped", files, pick(list[0]))
	wantTip(t, "dropped", behind, tip)
	if !sameFiles(behind, files) {
		t.Errorf("a dropped commit: it %s", differing(behind, files))
	}
	wantDone(t, "nobody is asked for", files, pickBy(nobody(), list[0], tip))
	// The second one comes, the third one takes back what it brought: both are commits.
	behind = wantDone(t, "between others", files, pick(list...))
	if got := messages(behind, 4); !slices.Equal(got, []string{"pick2", "pick1", "ours", "from"}) {
		t.Errorf("the messages are %q", got)
	}
	wantIndex(t, "between others", behind, "a new", "b y")
}

// P25.2: a root commit has no base, a merge's commit its first parent.
func TestPickParents(t *testing.T) {
	files, root := grown(begun(), "root", nil, "a x", "r new")
	files, other := grown(files, "other", nil, "a x", "o other")
	files, merged := grown(files, "merged", ids(other, root), "a x", "o other", "r changed")
	files, tip := grown(files, "tip", nil, "a x", "t own")
	files = standing(files, tip, "a x", "t own")
	behind := wantDone(t, "a root", files, pick(root))
	wantCommit(t, "a root", behind, tipOf(behind), api.Snapshot{Parents: ids(tip), Author: you(4), Committer: me(12), Message: "root"}, "a x", "r new", "t own")
	behind = wantDone(t, "a merge", files, pick(merged))
	wantCommit(t, "a merge", behind, tipOf(behind), api.Snapshot{Parents: ids(tip), Author: you(6), Committer: me(12), Message: "merged"}, "a x", "r changed", "t own")
	stopped := wantStopped(t, "a root that clashes", behind, pick(root), "pick", tipOf(behind), root)
	wantIndex(t, "a root that clashes", stopped, "a x", "2:r changed", "3:r new", "t own")
}

// P25.2, P25.3: a pick that stops at the first, at a middle one and at the last, and how each goes on.
func TestPickStops(t *testing.T) {
	for at := range 4 {
		texts := []string{"a x|b 0", "a x|b 0|c 1", "a x|b 0|c 1|d 2", "a x|b 0|c 1|d 2|e 3"}
		for i := range texts {
			if i >= at {
				texts[i] = strings.Replace(texts[i], "a x", "a theirs", 1)
			}
		}
		files, _, tip, list := forked("a x", "a ours|o own", texts...)
		what := fmt.Sprintf("at %d", at)
		stopped := wantStopped(t, what, working(files, "n unknown"), pick(list...), "pick", tip, list[at:]...)
		if got := messages(stopped, 9); len(got) != 2+at {
			t.Errorf("%s: the messages are %q", what, got)
		}
		before := tipOf(stopped)
		wantStatus(t, what, stopped, "UM a", fmt.Sprintf("A  %c", 'b'+at), " ? n")
		wantNotes(t, what, stopped, mainName, tip, before, slices.Repeat([]string{"pick"}, at)...)
		wantError(t, what, stopped, goOn(), api.ErrClash)
		// It is settled: the commit that stopped has its author and message.
		all := append([]string{"a both"}, lines(texts[at])[1:]...)
		settled := working(indexed(stopped, slots(append(all, "o own")...)), "a both")
		behind := wantDone(t, what, settled, goOn())
		wantStatus(t, what, behind, " ? n")
		if got := messages(behind, 9); len(got) != 6 || got[3-at] != fmt.Sprint("pick", at) {
			t.Errorf("%s, settled: the messages are %q", what, got)
		}
		wantNotes(t, what, behind, mainName, tip, tipOf(behind), slices.Repeat([]string{"pick"}, 4)...)
		id := tipOf(behind)
		for range 3 - at {
			c, _ := base.Commit(behind, id)
			id = c.Parents[0]
		}
		wantCommit(t, what, behind, id, api.Snapshot{Parents: ids(before), Author: you(5), Committer: me(14), Message: fmt.Sprint("pick", at)}, append(all, "o own")...)
		// It is settled as the tip has it: then it is dropped.
		same := lines("a ours|b 0|c 1|d 2")[:1+at]
		dropped := wantDone(t, what, working(indexed(without(stopped, "work/"+string(rune('b'+at))), slots(append(same, "o own")...)), "a ours"), goOn())
		if got := messages(dropped, 9); len(got) != 5 {
			t.Errorf("%s, dropped: the messages are %q", what, got)
		}
		// It is skipped.
		skipped := wantDone(t, what, stopped, skip())
		if got := messages(skipped, 9); len(got) != 5 || slices.Contains(got, fmt.Sprint("pick", at)) {
			t.Errorf("%s, skipped: the messages are %q", what, got)
		}
		wantStatus(t, what, skipped, " ? n")
		// It is taken back.
		back := wantDone(t, what, stopped, abort())
		wantSameView(t, what, back, working(files, "n unknown"))
		if at > 0 {
			wantNotes(t, what, back, mainName, before, tip, "abort")
		}
	}
}

// P25.3, P25.7: a sequence that stops again and again: each time what is to do is less, and the beginning stays told.
func TestPickStopsOften(t *testing.T) {
	files, _, tip, list := forked("a x", "a ours", "a 1", "a 2", "a 3", "a 4")
	settle := func(files []api.File, text string) []api.File {
		files, _ = stored(files, blob(text))
		return working(indexed(files, slots("a "+text)), "a "+text)
	}
	first := files
	files = wantStopped(t, "first", files, pick(list...), "pick", tip, list...)
	files = wantStopped(t, "second", settle(files, "5"), goOn(), "pick", tip, list[1:]...)
	files = wantStopped(t, "third", files, skip(), "pick", tip, list[2:]...)
	wantSameView(t, "taken back", wantDone(t, "taken back", files, abort()), first)
	files = wantStopped(t, "fourth", settle(files, "6"), goOn(), "pick", tip, list[3:]...)
	files = wantDone(t, "done", settle(files, "7"), goOn())
	if got := messages(files, 9); !slices.Equal(got, []string{"pick3", "pick2", "pick0", "ours", "from"}) {
		t.Errorf("the messages are %q", got)
	}
	wantNotes(t, "done", files, mainName, tip, tipOf(files), "pick", "pick", "pick")
}

// P25.2: MaxSteps commits, and one more.
func TestPickMany(t *testing.T) {
	files, _, tip, list := forked("a x", "a x|o own", "a x|b 1", "a x")
	var many []api.Id
	for range api.MaxSteps / 2 {
		many = append(many, list...)
	}
	behind := wantDone(t, "many", files, alone(pick(many...)))
	wantStatus(t, "many", behind)
	if got, e := base.Walk(behind, ids(tipOf(behind))); len(got) != api.MaxSteps+2 || e != api.OK {
		t.Errorf("%d commits, error %d", len(got), e)
	}
	if l, e := refs.Notes(behind, mainName); len(l) != api.MaxSteps+1 || e != api.OK {
		t.Errorf("%d notes, error %d", len(l), e)
	}
	wantError(t, "one more", files, pick(append(many, list[0])...), api.ErrLong)
	// Ids that aren't there come behind that.
	wantError(t, "one more", files, pickBy(nobody(), append(many, api.Id{1})...), api.ErrLong)
	wantError(t, "the last one isn't there", files, pickBy(nobody(), append(many[1:], api.Id{1})...), api.ErrNone)
	// As many may be left to do, and to go on with.
	files, _, tip, list = forked("a x", "a ours", "a theirs")
	many = slices.Repeat(list, api.MaxSteps)
	stopped := wantStopped(t, "all are left", files, pick(many...), "pick", tip, many...)
	wantStopped(t, "one less", stopped, skip(), "pick", tip, many[1:]...)
}
