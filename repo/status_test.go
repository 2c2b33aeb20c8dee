package repo_test

import (
	"strings"
	"testing"

	"codicil/api"
	"codicil/repo"
)

// P24.7: each letter of Staged and Work, several together, and a path that is alike in all three.
func TestStatus(t *testing.T) {
	files, _ := at(t, "alike x", "gone/both x", "gone/index x", "gone/work x", "mode x", "staged x", "twice x", "worked x")
	files = indexed(files, slots("alike x", "came x", "came/not x", "gone/work x", "mode* x", "staged y", "twice y", "worked x"))
	for _, path := range []string{"gone/both", "gone/work"} {
		files = without(files, "work/"+path)
	}
	files = working(files, "came x", "staged y", "twice z", "unknown x", "worked y")
	wantStatus(t, "all letters", files,
		"A  came", "AD came/not", "D  gone/both", "D? gone/index", " D gone/work", "M  mode", "M  staged", "MM twice", " ? unknown", " M worked")
	changed := working(files, "came y", "mode y")
	wantStatus(t, "changed again", without(changed, "work/staged"),
		"AM came", "AD came/not", "D  gone/both", "D? gone/index", " D gone/work", "MM mode", "MD staged", "MM twice", " ? unknown", " M worked")
}

// P24.7: a path of other stages, with and without a file, whose least stage is asked.
func TestStatusStages(t *testing.T) {
	files, _ := at(t, "a x", "b x", "c x", "d x")
	files = indexed(files, slots("1:a x", "2:a 2", "3:a 3", "1:b 1", "2:b x", "2:c x", "3:c 3", "3:d 3", "2:e 2", "3:f 3"))
	wantStatus(t, "stages", working(files, "e 2", "g 1"), "U  a", "UM b", "U  c", "UM d", "U  e", "UD f", " ? g")
	wantStatus(t, "no files", without(without(files, "work/a"), "work/c"), "UD a", "UM b", "UD c", "UM d", "UD e", "UD f")
}

// P24.7: a repository without a tip, with and without slots and files.
func TestStatusUnborn(t *testing.T) {
	wantStatus(t, "nothing", begun(t))
	files := working(indexed(begun(t), slots("a x", "b y")), "a x", "c/d z", "c/e z")
	wantStatus(t, "no tip", files, "A  a", "AD b", " ? c/d", " ? c/e")
	wantHead(t, "no tip", files, mainName, api.Id{})
}

// P24.7: paths rise by their bytes, and other files are none of the worktree.
func TestStatusOrder(t *testing.T) {
	files := working(indexed(begun(t), slots("B 1", "a 1", "a- 1", "a.b 1", "b 1")), "A 2", "a/b 2", "a0 2", "ab 2")
	for _, path := range []string{"work", "workx", "worktree/x", "Work/x", "objects/x", "seq"} {
		files = having(files, path, "x")
	}
	wantStatus(t, "order", files, " ? A", "AD B", "AD a", "AD a-", "AD a.b", " ? a/b", " ? a0", " ? ab", "AD b")
	wantWork(t, "order", files, "A 2", "a/b 2", "a0 2", "ab 2")
}

// P24.7: the errors of the tip's slots are Status's alone.
func TestStatusErrors(t *testing.T) {
	files, _ := at(t, "a/b x")
	bad, noTree := pointing(files, api.Id{7})
	broken, ids := stored(files, api.Object{Kind: api.Commit, Data: []byte("tree")}, api.Object{Kind: api.Tree, Data: []byte("x")})
	badTree, brokenTree := pointing(broken, ids[1])
	for _, one := range []struct {
		files  []api.File
		tip    api.Id
		wanted api.Errno
	}{
		{files, api.Id{7}, api.ErrNone}, {files, idOf(blob("x")), api.ErrType}, {broken, ids[0], api.ErrForm},
		{bad, noTree, api.ErrNone}, {badTree, brokenTree, api.ErrForm},
	} {
		in := referring(one.files, api.Ref{Name: mainName, Id: one.tip})
		if e := wantRead(t, "a wrong tip", in); e != one.wanted {
			t.Errorf("Status at %x: error %d, wanted %d", one.tip[:4], e, one.wanted)
		}
		wantHead(t, "a wrong tip", in, mainName, one.tip)
		wantIndex(t, "a wrong tip", in, "a/b x")
		wantWork(t, "a wrong tip", in, "a/b x")
	}
}

// P24.7: Head, Index and Work answer just what is there; Size and Time, too.
func TestRead(t *testing.T) {
	files, tip := at(t, "a x", "b/c* y")
	wantHead(t, "read", files, mainName, tip)
	l, _ := repo.Index(files)
	if len(l) != 2 || l[1] != (api.Slot{Path: "b/c", Mode: api.ModeExec, Id: idOf(blob("y")), Size: 8, Time: 10}) {
		t.Errorf("Index is %v", l)
	}
	wantWork(t, "read", having(files, "work/"+long(195), "far"), "a x", "b/c y", long(195)+" far")
	other := referring(files, api.Ref{Name: "HEAD", Target: "refs/heads/" + strings.Repeat("b", 189)})
	wantHead(t, "another branch", other, "refs/heads/"+strings.Repeat("b", 189), api.Id{})
	wantStatus(t, "another branch", other, "A  a", "A  b/c")
}
