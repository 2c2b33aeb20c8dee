package seq_test

import (
	"fmt"
	"slices"
	"strings"
	"testing"

	"codicil/api"
	"codicil/odb"
	"codicil/repo"
)

// P25.1: where id is an ancestor of the tip there is nothing to do: the tip itself, its parent, a second parent's parent.
func TestMergeAncestor(t *testing.T) {
	files, a := grown(begun(), "a", nil, "a x")
	files, b := grown(files, "b", ids(a), "a y")
	files, c := grown(files, "c", nil, "c x")
	files, tip := grown(files, "tip", ids(b, c), "a y", "c x")
	files = standing(files, tip, "a y", "c x")
	for _, id := range ids(tip, a, b, c) {
		wantError(t, "an ancestor", files, mergeBy(nobody(), id), api.ErrSame)
	}
}

// P25.1: where the tip is an ancestor of id, branch, index and worktree go there; there is no commit more.
func TestMergeAhead(t *testing.T) {
	files, a := grown(begun(), "a", nil, "a x", "b/c y", "d z", "m same")
	files, b := grown(files, "b", ids(a), "a x", "b/c y", "d z", "e more", "m same")
	files, c := grown(files, "c", ids(b), "a new", "b/c y", "e* more", "f@ link", "m same")
	files = standing(files, a, "a x", "b/c y", "d z", "m same")
	before, _ := odb.Ids(files)
	for _, id := range ids(b, c) {
		behind := wantDone(t, "ahead", files, merge(id))
		wantTip(t, "ahead", behind, id)
		wantStatus(t, "ahead", behind)
		wantNotes(t, "ahead", behind, mainName, a, id, "merge")
		wantNotes(t, "ahead", behind, "HEAD", a, id, "merge")
		if now, _ := odb.Ids(behind); !slices.Equal(now, before) {
			t.Errorf("there are %d objects, there were %d", len(now), len(before))
		}
		wantError(t, "again", behind, merge(id), api.ErrSame)
	}
	behind := wantDone(t, "ahead", files, merge(c))
	wantIndex(t, "ahead", behind, "a new", "b/c y", "e* more", "f@ link", "m same")
	wantWork(t, "ahead", behind, "a new", "b/c y", "e more", "f link", "m same")
	l, _ := repo.Index(behind)
	for i, wanted := range []int{0, 7, 0, 0, 7} {
		if l[i].Size != wanted || (l[i].Time != 0) != (wanted != 0) {
			t.Errorf("the slot of %s has Size %d, Time %d", l[i].Path, l[i].Size, l[i].Time)
		}
	}
	kept := wantDone(t, "an unknown file stays", working(files, "n unknown"), merge(c))
	wantStatus(t, "an unknown file stays", kept, " ? n")
	wantError(t, "an unknown file is there", working(files, "e more"), merge(b), api.ErrDirty)
	wantError(t, "its folder is there", working(files, "e/f x"), merge(b), api.ErrExists)
	wantError(t, "no blob", without(files, place("more")), merge(b), api.ErrNone)
	wantError(t, "no ident", files, mergeBy(nobody(), b), api.ErrName)
}

// P25.1: both sides changed other files, or other lines: a commit with both as parents.
func TestMergeBoth(t *testing.T) {
	files, from, ours, theirs := twoSides(
		"a 1\n2\n3\n4\n|b x|c y|d z|m same",
		"a 0\n1\n2\n3\n4\n|b x|c ours|e both|m same",
		"a 1\n2\n3\n4\n5\n|b theirs|c y|d z|e both|f* more|m same")
	behind := wantDone(t, "both", files, merge(theirs))
	list := []string{"a 0\n1\n2\n3\n4\n5\n", "b theirs", "c ours", "e both", "f* more", "m same"}
	wantIndex(t, "both", behind, list...)
	wantStatus(t, "both", behind)
	wantCommit(t, "both", behind, tipOf(behind), api.Snapshot{Parents: ids(ours, theirs), Author: me(11), Committer: me(11), Message: "merge " + digits(theirs)}, list...)
	wantNotes(t, "both", behind, mainName, ours, tipOf(behind), "merge")
	l, _ := repo.Index(behind)
	for _, s := range l {
		comes := slices.Contains([]string{"a", "b", "f"}, s.Path)
		if comes != (s.Size == 0) || comes != (s.Time == 0) {
			t.Errorf("the slot of %s has Size %d, Time %d", s.Path, s.Size, s.Time)
		}
	}
	if !odbHas(behind, blob("0\n1\n2\n3\n4\n5\n")) {
		t.Error("there is no blob of the merged text")
	}
	wantError(t, "its parent", behind, merge(theirs), api.ErrSame)
	wantError(t, "its parent", behind, merge(from), api.ErrSame)
	wantError(t, "no ident", files, mergeBy(nobody(), theirs), api.ErrName)
	kept := wantDone(t, "an unknown file stays", working(files, "n unknown"), merge(theirs))
	wantStatus(t, "an unknown file stays", kept, " ? n")
	wantError(t, "an unknown file is there", working(files, "f more"), merge(theirs), api.ErrDirty)
	wantError(t, "no blob of ours", without(files, place("0\n1\n2\n3\n4\n")), merge(theirs), api.ErrNone)
}

// odbHas answers whether an object is there.
func odbHas(files []api.File, o api.Object) bool {
	_, e := odb.Get(files, idOf(o))
	return e == api.OK
}

// P25.1: a merge that brings nothing of its own is a commit all the same.
func TestMergeNothing(t *testing.T) {
	files, _, ours, theirs := twoSides("a x", "a y", "a y")
	behind := wantDone(t, "nothing new", files, merge(theirs))
	wantCommit(t, "nothing new", behind, tipOf(behind), api.Snapshot{Parents: ids(ours, theirs), Author: me(11), Committer: me(11), Message: "merge " + digits(theirs)}, "a y")
	wantStatus(t, "nothing new", behind)
}

// P25.1: moved files are followed; DOC.md's example 7.
func TestMergeMoved(t *testing.T) {
	files, _, _, theirs := twoSides("a 1\n2\n3\n|b 1\n2\n", "b 1\n2\n|d 1\n2\n3\n", "a 1\n2\nx\n|b 1\n2\n")
	behind := wantDone(t, "moved", files, merge(theirs))
	wantIndex(t, "moved", behind, "b 1\n2\n", "d 1\n2\nx\n")
	wantWork(t, "moved", behind, "b 1\n2\n", "d 1\n2\nx\n")
	wantStatus(t, "moved", behind)
}

// P25.1: without a common ancestor all that both have comes together, and what is unlike clashes.
func TestMergeNoBase(t *testing.T) {
	files, ours := grown(begun(), "ours", nil, "a x", "b y")
	files, theirs := grown(files, "theirs", nil, "b y", "c z")
	files, other := grown(files, "other", nil, "a z\n", "c z")
	files = standing(files, ours, "a x", "b y")
	behind := wantDone(t, "no base", files, merge(theirs))
	wantIndex(t, "no base", behind, "a x", "b y", "c z")
	wantStatus(t, "no base", behind)
	behind = wantStopped(t, "no base", files, merge(other), "merge", ours, other)
	wantIndex(t, "no base", behind, "2:a x", "3:a z\n", "b y", "c z")
	wantWork(t, "no base", behind, "a <<<<<<< HEAD\nx\n||||||| base\n=======\nz\n>>>>>>> "+digits(other)+"\n", "b y", "c z")
}

// P25.1: what a merge that stops leaves: DOC.md's examples 5 and 6, and each kind of clash.
func TestMergeStops(t *testing.T) {
	files, _, ours, theirs := twoSides(
		"a 1\n2\n3\n|b x|c y|d z|e 1\n2\n3\n4\n|f@ link|m same",
		"a 1\nours\n3\n|b gone\n|d w|e 0\n1\n2\n3\n4\n|f@ mine|g new|m same",
		"a 1\ntheirs\n3\n|c other|d z|e 1\n2\n3\n4\n5\n|f@ yours|g* knew|h more|m same")
	behind := wantStopped(t, "stops", working(files, "n unknown"), merge(theirs), "merge", ours, theirs)
	wantTip(t, "stops", behind, ours)
	wantIndex(t, "stops", behind, "1:a 1\n2\n3\n", "2:a 1\nours\n3\n", "3:a 1\ntheirs\n3\n", "1:b x", "2:b gone\n", "1:c y", "3:c other", "d w", "e 0\n1\n2\n3\n4\n5\n",
		"1:f@ link", "2:f@ mine", "3:f@ yours", "2:g new", "3:g* knew", "h more", "m same")
	mark := func(ours, base, theirs string, id api.Id) string {
		return "<<<<<<< HEAD\n" + ours + "||||||| base\n" + base + "=======\n" + theirs + ">>>>>>> " + digits(id) + "\n"
	}
	wantWork(t, "stops", behind, "a 1\n"+mark("ours\n", "2\n", "theirs\n", theirs)+"3\n", "b gone\n", "c other", "d w", "e 0\n1\n2\n3\n4\n5\n", "f mine",
		"g "+mark("new\n", "", "knew\n", theirs), "h more", "m same", "n unknown")
	wantStatus(t, "stops", behind, "UM a", "UM b", "UM c", "M  e", "UM f", "UM g", "A  h", " ? n")
	if l, _ := repo.Index(behind); slices.ContainsFunc(l, func(s api.Slot) bool { return s.Size != 0 || s.Time != 0 }) {
		t.Errorf("the index has %v", l)
	}
	if !odbHas(behind, blob("0\n1\n2\n3\n4\n5\n")) {
		t.Error("there is no blob of a text that was merged")
	}
	if odbHas(behind, blob(mark("new\n", "", "knew\n", theirs))) {
		t.Error("there is a blob of a text that clashes")
	}
	if word, todo := wantTodo(t, "stops", behind); word != "merge" || !slices.Equal(todo, ids(theirs)) {
		t.Errorf("Todo is %q, %x", word, todo)
	}
	// Nobody is asked for where nothing is recorded.
	wantStopped(t, "no ident", files, mergeBy(nobody(), theirs), "merge", ours, theirs)
	for _, path := range []string{"h", "c"} {
		wantError(t, "an unknown file is there", working(files, path+" x"), merge(theirs), api.ErrDirty)
	}
	for _, path := range []string{"h/x", "c/x/y"} {
		wantError(t, "a folder is there", working(files, path+" x"), merge(theirs), api.ErrExists)
	}
	wantDone(t, "taken back", behind, abort())
	wantSameView(t, "taken back", wantDone(t, "taken back", behind, abort()), working(files, "n unknown"))
	skipped := wantDone(t, "dropped", behind, skip())
	wantSameView(t, "dropped", skipped, working(files, "n unknown"))
	wantNotes(t, "dropped", skipped, mainName, api.Id{}, ours, "by hand")
	wantError(t, "not settled", behind, goOn(), api.ErrClash)
}

// P25.3: of a merge Continue makes the commit with the tree of the index, whatever the worktree has.
func TestMergeContinue(t *testing.T) {
	files, _, ours, theirs := twoSides("a x|b y", "a ours|b y", "a theirs|b y|c z")
	stopped := wantStopped(t, "stops", files, merge(theirs), "merge", ours, theirs)
	for _, list := range [][]string{{"a both", "b y", "c z"}, {"a ours", "b y"}, {"b y"}, {"d/e w"}, nil} {
		settled := working(indexed(stopped, sized(slots(list...))), "b changed", "n unknown")
		behind := wantDone(t, "settled", settled, goOn())
		wantCommit(t, "settled", behind, tipOf(behind), api.Snapshot{Parents: ids(ours, theirs), Author: me(14), Committer: me(14), Message: "merge " + digits(theirs)}, list...)
		wantNotes(t, "settled", behind, mainName, ours, tipOf(behind), "merge")
		before, _ := repo.Work(settled)
		if now, _ := repo.Work(behind); !sameFiles(now, before) {
			t.Errorf("the worktree %s", differing(now, before))
		}
		if text, _ := textOf(settled, "index"); !strings.HasPrefix(text, "DIRC") {
			t.Error("there is no index")
		} else if now, _ := textOf(behind, "index"); now != text {
			t.Error("the index has changed")
		}
	}
	for _, one := range []string{"1:a x", "2:a x", "3:a x"} {
		wantError(t, "a stage", indexed(stopped, slots(one, "b y")), goOnBy(nobody()), api.ErrClash)
	}
	wantError(t, "a folder of another one", indexed(stopped, slots("a x", "a/b x")), goOnBy(nobody()), api.ErrExists)
	wantError(t, "no ident", indexed(stopped, slots("a x")), goOnBy(nobody()), api.ErrName)
	// What is merged isn't read: the chapter's words ask for its id alone.
	wantDone(t, "gone", without(indexed(stopped, slots("a x")), placeOf(theirs)), goOn())
	unborn := referring(indexed(stopped, slots("a x")), api.Ref{Name: mainName})
	behind := wantDone(t, "no tip", unborn, goOn())
	wantCommit(t, "no tip", behind, tipOf(behind), api.Snapshot{Parents: ids(theirs), Author: me(14), Committer: me(14), Message: "merge " + digits(theirs)}, "a x")
}

// placeOf answers the path of an object's file.
func placeOf(id api.Id) string { return "objects/" + digits(id)[:2] + "/" + digits(id)[2:] }

// crossed answers two commits with two best common ancestors, which have the slots that are told, one a line.
func crossed(files []api.File, one, two, ours, theirs []string) ([]api.File, api.Id, api.Id) {
	files, root := grown(files, "root", nil)
	files, a := grown(files, "one", ids(root), one...)
	files, b := grown(files, "two", ids(root), two...)
	files, c := grown(files, "ours", ids(a, b), ours...)
	files, d := grown(files, "theirs", ids(b, a), theirs...)
	return standing(files, c, ours...), c, d
}

// P25.1: several best common ancestors are made one, with the texts of what clashes in that.
func TestMergeSeveralBases(t *testing.T) {
	// One has x, the other y: what both sides made of it clashes in the base, but they agree.
	files, ours, theirs := crossed(begun(), []string{"a x\n", "b 1\n"}, []string{"a y\n", "b 1\n"}, []string{"a z\n", "b 1\n2\n"}, []string{"a z\n", "b 0\n1\n"})
	behind := wantDone(t, "several", files, merge(theirs))
	wantIndex(t, "several", behind, "a z\n", "b 0\n1\n2\n")
	wantCommit(t, "several", behind, tipOf(behind), api.Snapshot{Parents: ids(ours, theirs), Author: me(11), Committer: me(11), Message: "merge " + digits(theirs)}, "a z\n", "b 0\n1\n2\n")
	// One side keeps x, the other keeps y: the base's text has both, so both changed it, and the text tells what of.
	for _, texts := range [][2]string{{"x\n", "y\n"}, {"y\n", "x\n"}, {"x\n", "w\n"}, {"", "y\n"}} {
		files, ours, theirs = crossed(begun(), []string{"a x\n"}, []string{"a* y\n"}, []string{"a " + texts[0]}, []string{"a* " + texts[1]})
		stopped := wantStopped(t, "several", files, merge(theirs), "merge", ours, theirs)
		l, _ := repo.Index(stopped)
		if len(l) != 3 || l[0].Stage != 1 || l[0].Mode != api.ModeExec && l[0].Mode != api.ModeFile {
			t.Fatalf("the index has %v", l)
		}
		o, e := odb.Get(stopped, l[0].Id)
		text := string(o.Data)
		if e != api.OK || !strings.HasPrefix(text, "<<<<<<< HEAD\n") || !strings.Contains(text, "x\n") || !strings.Contains(text, "y\n") {
			t.Errorf("the base's text is %q, error %d", text, e)
		}
		if work, _ := textOf(stopped, "work/a"); !strings.Contains(work, "||||||| base\n") {
			t.Errorf("the text is %q", work)
		}
	}
	// What one has alone, or both alike, is the base's as it is; moved files are not followed in that.
	files, _, theirs = crossed(begun(), []string{"a x", "b y", "d 1\n2\n3\n"}, []string{"b y", "c z", "e 1\n2\n3\n"}, []string{"a x", "b y", "c z"}, []string{"a x", "b* y"})
	behind = wantDone(t, "alone", files, merge(theirs))
	wantIndex(t, "alone", behind, "a x", "b* y")
	// An empty text and another one make that one, without a clash: its blob is an object more.
	files, _, theirs = crossed(begun(), []string{"a "}, []string{"a y\n"}, []string{"a y\n1\n"}, []string{"a 0\ny\n"})
	wantIndex(t, "an empty one", wantDone(t, "an empty one", files, merge(theirs)), "a 0\ny\n1\n")
	// Links are not merged: theirs has the mode, ours the text.
	files, _, theirs = crossed(begun(), []string{"a@ x"}, []string{"a* y"}, []string{"a@ x"}, []string{"a* y"})
	wantPlain(t, "links", files, merge(theirs))
}

// P25.1: three best common ancestors, one behind the other; and one that is a folder of another's path.
func TestMergeThreeBases(t *testing.T) {
	files, root := grown(begun(), "root", nil)
	var list []api.Id
	for i := range 3 {
		var id api.Id
		files, id = grown(files, fmt.Sprint("base", i), ids(root), fmt.Sprintf("a %d\n", i), fmt.Sprintf("b%d x", i), "c same")
		list = append(list, id)
	}
	all := []string{"a 7\n", "b0 x", "b1 x", "b2 x", "c same"}
	files, ours := grown(files, "ours", list, all...)
	slices.Reverse(list)
	files, theirs := grown(files, "theirs", list, "a 7\n", "b0 x", "b1 x", "b2 y", "c same")
	files = standing(files, ours, all...)
	behind := wantDone(t, "three", files, merge(theirs))
	wantIndex(t, "three", behind, "a 7\n", "b0 x", "b1 x", "b2 y", "c same")
	if text := basesText(behind); !strings.Contains(text, "<<<<<<< HEAD\n<<<<<<< HEAD\n") {
		t.Errorf("the texts of the bases are %q", text)
	}
	files, _, theirs = crossed(begun(), []string{"a x"}, []string{"a/b x"}, []string{"c x"}, []string{"d x"})
	wantError(t, "a folder", files, merge(theirs), api.ErrExists)
}

// basesText answers the blobs that have marks.
func basesText(files []api.File) string {
	text := ""
	list, _ := odb.Ids(files)
	for _, id := range list {
		if o, _ := odb.Get(files, id); o.Kind == api.Blob && strings.HasPrefix(string(o.Data), "<<<<<<<") {
			text += string(o.Data)
		}
	}
	return text
}
