package repo_test

import (
	"fmt"
	"slices"
	"strings"
	"testing"

	"codicil/api"
	"codicil/base"
	"codicil/odb"
	"codicil/refs"
	"codicil/repo"
	"codicil/trees"
)

// P24.4: a commit without a parent and one with, of files and folders, its author, committer and message; all else stays.
func TestCommit(t *testing.T) {
	list := []string{"a x", "b/c* y", "b/d@ z"}
	files, _ := stored(begun(t), blob("x"), blob("y"), blob("z"))
	files = working(indexed(files, sized(slots(list...))), "a other", "e new")
	var parents []api.Id
	for _, message := range []string{"one", "two\n\nand more", "", "\nbehind an empty line"} {
		before := files
		var id api.Id
		files, id, _ = wantPlain(t, "commit", files, commit(message))
		c, e := base.Commit(files, id)
		if e != api.OK || !slices.Equal(c.Parents, parents) || c.Author != me(5) || c.Committer != me(5) || c.Message != message {
			t.Fatalf("Commit(%q): %v, error %d", message, c, e)
		}
		if l, e := trees.Flatten(files, c.Tree); e != api.OK || !slices.Equal(l, slots(list...)) {
			t.Errorf("Commit(%q): the tree has %v, error %d", message, l, e)
		}
		first, _, _ := strings.Cut(message, "\n")
		was := append([]api.Id{{}}, parents...)
		wantNote(t, message, files, mainName, was[len(was)-1], id, me(5), "commit: "+first)
		wantNote(t, message, files, "HEAD", was[len(was)-1], id, me(5), "commit: "+first)
		wantHead(t, message, files, mainName, id)
		for _, f := range before {
			if !strings.HasPrefix(f.Path, "reftable/") && !slices.ContainsFunc(files, func(g api.File) bool { return sameFiles([]api.File{f}, []api.File{g}) }) {
				t.Errorf("Commit(%q) changes %s", message, f.Path)
			}
		}
		parents = []api.Id{id}
		list = append(list, fmt.Sprintf("n%d x", len(list)))
		files = indexed(files, slots(list...))
	}
}

// P24.4: the tip's own tree brings nothing new, nor does an index without slots where there is no tip.
func TestCommitSame(t *testing.T) {
	wantError(t, "no tip, no slots", begun(t), commit("m"), api.ErrSame)
	files, _ := at(t, "a x", "b/c y")
	wantError(t, "the tip's tree", files, commit("m"), api.ErrSame)
	wantError(t, "the tip's tree, other sizes", indexed(files, slots("a x", "b/c y")), commit("m"), api.ErrSame)
	wantError(t, "the worktree is of no account", working(files, "a changed"), commit("m"), api.ErrSame)
	want(t, "a mode", indexed(files, slots("a* x", "b/c y")), commit("m"))
	none := want(t, "no slots", indexed(files, nil), commit("m"))
	wantIndex(t, "no slots", none)
	wantStatus(t, "no slots", none, " ? a", " ? b/c")
	wantError(t, "no slots again", none, commit("m"), api.ErrSame)
	back := want(t, "the tree of an older one", indexed(none, slots("a x", "b/c y")), commit("m"))
	wantStatus(t, "the tree of an older one", back)
}

// P24.4: blobs need not be there.
func TestCommitWithoutBlobs(t *testing.T) {
	files, id, e := wantPlain(t, "no blobs", indexed(begun(t), slots("a x")), commit("m"))
	if _, got := odb.Get(files, idOf(blob("x"))); e != api.OK || got != api.ErrNone {
		t.Errorf("a blob that isn't there: errors %d, %d", e, got)
	}
	wantHead(t, "no blobs", files, mainName, id)
}

// P24.4: on another branch, and where HEAD names what begins with no refs/heads/.
func TestCommitBranches(t *testing.T) {
	files := indexed(begun(t), slots("a x"))
	for _, name := range []string{"refs/heads/new", "refs/other/x"} {
		on := referring(files, api.Ref{Name: "HEAD", Target: name})
		behind, id, _ := wantPlain(t, name, on, commit("m"))
		wantHead(t, name, behind, name, id)
		if _, e := refs.Get(behind, mainName); e != api.ErrNone {
			t.Errorf("Commit on %s: main has error %d", name, e)
		}
	}
	// A branch that has a Target of its own has no commit.
	on := referring(files, api.Ref{Name: mainName, Target: "refs/heads/other"})
	wantHead(t, "a Target", on, mainName, api.Id{})
	behind, id, _ := wantPlain(t, "a Target", on, commit("m"))
	wantHead(t, "behind a Target", behind, mainName, id)
	wantPlain(t, "HEAD names itself", referring(files, api.Ref{Name: "HEAD", Target: "HEAD"}), commit("m"))
}

// P24.4: each error of Commit, beside all those that come behind it.
func TestCommitErrors(t *testing.T) {
	long := strings.Repeat("m", wordy)
	wrong := commitBy(nobody(), "a\x00"+long)
	files, _ := at(t, "a x")
	tip := func(files []api.File, id api.Id) []api.File { return referring(files, api.Ref{Name: mainName, Id: id}) }
	noCommit := tip(files, idOf(blob("x")))
	wantError(t, "a stage", having(indexed(noCommit, slots("1:a x", "1:a/b x")), "seq", ""), wrong, api.ErrClash)
	for _, stage := range []string{"1:", "2:", "3:"} {
		wantError(t, "a stage", indexed(files, slots("a x", stage+"b x")), commit("m"), api.ErrClash)
	}
	wantError(t, "busy", having(indexed(noCommit, slots("a x", "a/b x")), "seq", "whatever"), wrong, api.ErrBusy)
	wantError(t, "folders", indexed(noCommit, slots("a x", "a/b x")), wrong, api.ErrExists)
	wantError(t, "no commit", noCommit, wrong, api.ErrType)
	wantError(t, "not there", tip(files, api.Id{1}), wrong, api.ErrNone)
	broken, ids := stored(files, api.Object{Kind: api.Commit, Data: []byte("tree")})
	wantError(t, "not in form", tip(broken, ids[0]), wrong, api.ErrForm)
	wantError(t, "the same", files, wrong, api.ErrSame)
	changed := indexed(files, slots("a y"))
	wantError(t, "no ident, a byte 0", changed, commitBy(nobody(), "a\x00"), api.ErrName)
	wantError(t, "a byte 0", changed, commit("a\x00"+long), api.ErrForm)
	wantError(t, "a long message", changed, commit("a\n"+strings.Repeat("m", api.MaxText)), api.ErrLong)
	want(t, "the longest message", changed, commit("a\n"+strings.Repeat("m", api.MaxText-2)))
	wantError(t, "a long line", changed, commit(long[:1000-len("commit: ")+1]), api.ErrLong)
	want(t, "the longest line", changed, commit(long[:1000-len("commit: ")]+"\n"+long))
}

// P24.4: as many slots as an index may have, with names as long as may be. (More bytes than a tree may have can't come, so
// neither trees.Build nor odb.Put has an error of its own here.)
func TestCommitMany(t *testing.T) {
	var list []string
	for i := range api.MaxEntries {
		list = append(list, fmt.Sprintf("%s%04d x", strings.Repeat("n", 96), i))
	}
	files := want(t, "as many as may be", indexed(begun(t), slots(list...)), commit("m"))
	if _, e := repo.Status(files); e != api.OK {
		t.Errorf("as many as may be: Status has error %d", e)
	}
}

// P24.4: trees and blobs in packs are found, and are no objects more.
func TestCommitPacked(t *testing.T) {
	files, _ := at(t, "a x", "b/c y")
	files = packedUp(t, files)
	behind, id, _ := wantPlain(t, "packed", indexed(files, slots("b/c y")), commit("m"))
	if all, _ := odb.Ids(behind); len(all) != 7 {
		t.Errorf("%d objects", len(all))
	}
	behind, _, _ = wantPlain(t, "packed again", packedUp(t, behind), reset(2, id))
	wantStatus(t, "packed again", behind, " ? a")
}
