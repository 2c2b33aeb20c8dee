package repo_test

import (
	"strings"
	"testing"

	"codicil/api"
	"codicil/refs"
)

// P24.5: a branch more, at the tip and at another commit; HEAD and all else stay.
func TestBranch(t *testing.T) {
	files, one := at(t, "a x")
	files, two := committed(files, "a y")
	for _, name := range []string{"b", "b/c", "HEAD", "refs/heads/main", "mai", "main2", "-", "\x21", strings.Repeat("b", 189)} {
		for _, id := range []api.Id{one, two} {
			behind := want(t, "branch", files, branch(name, id))
			r, e := refs.Get(behind, "refs/heads/"+name)
			if e != api.OK || r.Id != id || r.Target != "" {
				t.Errorf("Branch(%q): %v, error %d", name, r, e)
			}
			wantNote(t, "branch", behind, "refs/heads/"+name, api.Id{}, id, me(6), "branch")
			wantHead(t, "branch", behind, mainName, one)
			wantStatus(t, "branch", behind)
		}
	}
	// HEAD names the new branch: then it is the tip.
	unborn := referring(files, api.Ref{Name: "HEAD", Target: "refs/heads/next"})
	behind := want(t, "the branch that HEAD names", unborn, branch("next", two))
	wantHead(t, "the branch that HEAD names", behind, "refs/heads/next", two)
	wantNote(t, "the branch that HEAD names", behind, "HEAD", api.Id{}, two, me(6), "branch")
	busy := having(files, "seq", "x")
	want(t, "something is under way", indexed(busy, slots("1:a x")), branch("b", one))
	want(t, "no tip", referring(files, api.Ref{Name: mainName}), branch("b", one))
}

// P24.5: each error of Branch, beside those that come behind it.
func TestBranchErrors(t *testing.T) {
	files, one := at(t, "a x")
	for _, name := range []string{"", ".b", "b.", "b.lock", "b..c", "b c", "b//c", "/b", "b/", "@{", "b~", "b\x7f", strings.Repeat("b", 190)} {
		wantError(t, "no name", files, branchBy(nobody(), name, api.Id{1}), api.ErrName)
	}
	wantError(t, "it is there", files, branchBy(nobody(), "main", api.Id{1}), api.ErrExists)
	target := referring(files, api.Ref{Name: "refs/heads/t", Target: "refs/heads/none"})
	wantError(t, "it is there with a Target", target, branchBy(nobody(), "t", api.Id{1}), api.ErrExists)
	want(t, "it was there", referring(referring(files, api.Ref{Name: "refs/heads/b", Id: one}), api.Ref{Name: "refs/heads/b"}), branch("b", one))
	wantError(t, "not there", files, branchBy(nobody(), "b", api.Id{1}), api.ErrNone)
	wantError(t, "no id", files, branchBy(nobody(), "b", api.Id{}), api.ErrNone)
	wantError(t, "a blob", files, branchBy(nobody(), "b", idOf(blob("x"))), api.ErrType)
	broken, ids := stored(files, api.Object{Kind: api.Commit, Data: []byte("tree")})
	wantError(t, "not in form", broken, branchBy(nobody(), "b", ids[0]), api.ErrForm)
	wantError(t, "no ident", files, branchBy(nobody(), "b", one), api.ErrName)
	wantError(t, "no repository", without(files, "index"), branchBy(nobody(), "", api.Id{1}), api.ErrForm)
}

// P24.5: the branch alone, the index too, the worktree too.
func TestResetWays(t *testing.T) {
	files, one := at(t, "a x", "b/c y", "d z")
	files, two := committed(files, "a new", "b/c y", "e* more", "f@ link")
	files = working(indexed(files, sized(slots("a x", "b/c y", "d z", "g added"))), "d changed", "g added", "h unknown", "b/h unknown")
	behind := want(t, "soft", files, reset(0, two))
	wantHead(t, "soft", behind, mainName, two)
	wantNote(t, "soft", behind, mainName, one, two, me(8), "reset")
	wantNote(t, "soft", behind, "HEAD", one, two, me(8), "reset")
	wantIndex(t, "soft", behind, "a x", "b/c y", "d z", "g added")
	wantWork(t, "soft", behind, "a x", "b/c y", "b/h unknown", "d changed", "g added", "h unknown")
	behind = want(t, "mixed", files, reset(1, two))
	wantHead(t, "mixed", behind, mainName, two)
	wantIndex(t, "mixed", behind, "a new", "b/c y", "e* more", "f@ link")
	wantWork(t, "mixed", behind, "a x", "b/c y", "b/h unknown", "d changed", "g added", "h unknown")
	behind = want(t, "hard", files, reset(2, two))
	wantHead(t, "hard", behind, mainName, two)
	wantIndex(t, "hard", behind, "a new", "b/c y", "e* more", "f@ link")
	wantWork(t, "hard", behind, "a new", "b/c y", "b/h unknown", "e more", "f link", "h unknown")
	wantStatus(t, "hard", behind, " ? b/h", " ? h")
	back := want(t, "hard, back", behind, reset(2, one))
	wantWork(t, "hard, back", back, "a x", "b/c y", "b/h unknown", "d z", "h unknown")
	wantStatus(t, "hard, back", back, " ? b/h", " ? h")
	for _, way := range []int{0, 1, 2} {
		same := want(t, "where it is", back, reset(way, one))
		wantHead(t, "where it is", same, mainName, one)
		wantStatus(t, "where it is", same, " ? b/h", " ? h")
	}
}

// P24.5: slots of several stages go; a file of a path that the index alone has goes, if it is there.
func TestResetStages(t *testing.T) {
	files, one := at(t, "a x", "b y")
	files = working(indexed(files, slots("1:a 1", "2:a 2", "3:a 3", "b y", "2:c 2", "3:d 3", "e 1")), "a clash", "c left", "d left")
	for _, way := range []int{1, 2} {
		wantIndex(t, "stages", want(t, "stages", files, reset(way, one)), "a x", "b y")
	}
	wantWork(t, "stages", want(t, "stages", files, reset(2, one)), "a x", "b y")
	soft := want(t, "stages", files, reset(0, one))
	wantIndex(t, "soft", soft, "1:a 1", "2:a 2", "3:a 3", "b y", "2:c 2", "3:d 3", "e 1")
}

// P24.5: a repository without a tip; a tip that isn't there or is none, which is of no account.
func TestResetTips(t *testing.T) {
	files, one := committed(begun(t), "a x")
	for _, way := range []int{0, 1, 2} {
		wantHead(t, "no tip", want(t, "no tip", files, reset(way, one)), mainName, one)
		for _, id := range []api.Id{{1}, idOf(blob("x"))} {
			wrong := referring(files, api.Ref{Name: mainName, Id: id})
			wantHead(t, "a wrong tip", want(t, "a wrong tip", wrong, reset(way, one)), mainName, one)
		}
	}
}

// P24.5: each error of Reset, beside those that come behind it, in each way.
func TestResetErrors(t *testing.T) {
	files, _ := at(t, "a x")
	busy := having(files, "seq", "")
	for _, way := range []int{-1, 3, 1 << 40, -1 << 63} {
		wantError(t, "no way", busy, resetBy(nobody(), way, api.Id{1}), api.ErrArg)
	}
	broken, ids := stored(busy, api.Object{Kind: api.Commit, Data: []byte("tree")})
	bad, noTree := pointing(files, api.Id{2})
	good, two := committed(files, "a y")
	for _, way := range []int{0, 1, 2} {
		wantError(t, "not there", busy, resetBy(nobody(), way, api.Id{1}), api.ErrNone)
		wantError(t, "no id", busy, resetBy(nobody(), way, api.Id{}), api.ErrNone)
		wantError(t, "a blob", busy, resetBy(nobody(), way, idOf(blob("x"))), api.ErrType)
		wantError(t, "not in form", broken, resetBy(nobody(), way, ids[0]), api.ErrForm)
		wantError(t, "busy", having(bad, "seq", ""), resetBy(nobody(), way, noTree), api.ErrBusy)
		wantError(t, "no ident", good, resetBy(nobody(), way, two), api.ErrName)
		wantError(t, "no repository", having(good, "index", ""), resetBy(nobody(), 9, two), api.ErrForm)
	}
	want(t, "no tree, soft", bad, reset(0, noTree))
	wantError(t, "no tree, soft, no ident", bad, resetBy(nobody(), 0, noTree), api.ErrName)
	for _, way := range []int{1, 2} {
		wantError(t, "no tree", bad, resetBy(nobody(), way, noTree), api.ErrNone)
		bad, blobTree := pointing(files, idOf(blob("x")))
		wantError(t, "a blob as a tree", bad, resetBy(nobody(), way, blobTree), api.ErrType)
	}
}

// P24.5: what comes into the worktree: paths that are too long, ahead of all blobs; blobs by paths; then what stands in the
// way. In the way 1 none of it is asked.
func TestResetComing(t *testing.T) {
	files, _ := at(t, "a x")
	wantComing := func(what string, files []api.File, id api.Id, wanted api.Errno) {
		t.Helper()
		wantError(t, what, files, resetBy(nobody(), 2, id), wanted)
		want(t, what+", mixed", files, reset(1, id))
	}
	most, id := committed(files, long(150)+" x")
	want(t, "150 bytes", most, reset(2, id))
	tooLong, id := committed(files, "a gone", long(151)+" x")
	tooLong = working(indexed(without(tooLong, place("gone")), nil), "a/b x", "c unknown")
	wantComing("151 bytes", tooLong, id, api.ErrName)
	// The index may have such a path, if at hasn't.
	had := indexed(files, slots("a x", long(151)+" x"))
	had, id = committed(had, "b y")
	wantWork(t, "a path that goes", want(t, "a path that goes", had, reset(2, id)), "b y")

	missing, id := committed(files, "a gone", "b/c y", "d z")
	missing = working(missing, "b unknown")
	wantComing("a blob that isn't there", without(missing, place("gone")), id, api.ErrNone)
	wantComing("the last one", without(missing, place("z")), id, api.ErrNone)
	wantComing("not a stream", having(without(missing, place("z")), place("y"), "x"), id, api.ErrShort)
	wantComing("a file of the worktree is a folder", missing, id, api.ErrExists)
	tree, id := odd(files, idOf(api.Object{Kind: api.Tree}), "b", "c")
	wantComing("no blob", tree, id, api.ErrType)
	wantComing("no blob, ahead of one that isn't there", without(tree, place("c")), id, api.ErrType)
	wantComing("the blob ahead isn't there", without(tree, place("a")), id, api.ErrNone)
	wantComing("no blob, and a folder", working(tree, "a/b x"), id, api.ErrType)
}

// P24.5: a path that comes is a folder of a file that stays, or the other way round; files that go or come are not in the way.
func TestResetFolders(t *testing.T) {
	files, _ := at(t, "a x", "b/c y")
	files, id := committed(files, "a/d x", "b y", "e/f z")
	behind := want(t, "files become folders", files, reset(2, id))
	wantWork(t, "files become folders", behind, "a/d x", "b y", "e/f z")
	for _, path := range []string{"a/d/g", "b/g", "e", "e/f/g", "b/h/i"} {
		wantError(t, path, working(files, path+" unknown"), resetBy(nobody(), 2, id), api.ErrExists)
	}
	for _, path := range []string{"a/g", "e-", "e/g", "b-", "a/dd"} {
		behind := want(t, path, working(files, path+" unknown"), reset(2, id))
		wantStatus(t, path, behind, " ? "+path)
	}
	// With a slot in the index the same files go.
	for _, path := range []string{"b/g", "e", "b/h/i"} {
		in := working(indexed(files, slots(path+" x")), path+" known")
		wantWork(t, path, want(t, path, without(without(in, "work/a"), "work/b/c"), reset(2, id)), "a/d x", "b y", "e/f z")
	}
}
