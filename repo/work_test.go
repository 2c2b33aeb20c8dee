package repo_test

import (
	"strings"
	"testing"

	"codicil/api"
	"codicil/repo"
)

// P24.2: a file that comes, one that is another then, one without bytes, and one that goes; all else stays.
func TestWriteErase(t *testing.T) {
	files, tip := at(t, "a x", "b/c y")
	files = want(t, "new", files, write("d", "z"))
	wantWork(t, "new", files, "a x", "b/c y", "d z")
	files = want(t, "another", files, write("a", "more"), write("b/c", ""))
	wantWork(t, "another", files, "a more", "b/c ", "d z")
	again := want(t, "the same", files, write("a", "more"))
	if !sameFiles(files, again) {
		t.Errorf("Write of what is there changes files: it %s", differing(again, files))
	}
	files = want(t, "gone", files, erase("a"), erase("b/c"))
	wantWork(t, "gone", files, "d z")
	files = want(t, "all gone", files, erase("d"))
	wantWork(t, "all gone", files)
	wantIndex(t, "the index stays", files, "a x", "b/c y")
	wantHead(t, "the tip stays", files, mainName, tip)
}

// P24.2: paths at their limits, and what is no path.
func TestWritePaths(t *testing.T) {
	files := begun(t)
	for _, path := range []string{"a", "...", "a b", "\xff", "work/a", "index", "seq", "a/b/c/d", long(150), strings.Repeat("n", 100)} {
		behind := want(t, "a path", files, write(path, "x"))
		wantWork(t, "a path", behind, path+" x")
	}
	for _, path := range []string{"", "/", ".", "..", "a/", "/a", "a//b", "a/../b", ".git", "a/.GIT/b", "a\x00b", long(151), long(200), long(201), strings.Repeat("n", 101)} {
		wantError(t, "no path", files, write(path, "x"), api.ErrName)
	}
}

// P24.2: as many bytes as an object may have, and one more, which comes ahead of a wrong path and of folders.
func TestWriteLong(t *testing.T) {
	files := working(begun(t), "a/b x")
	most := strings.Repeat("m", api.MaxData)
	behind := want(t, "most", files, write("c", most))
	wantWork(t, "most", behind, "a/b x", "c "+most)
	wantError(t, "one more", files, write("c", most+"m"), api.ErrLong)
	wantError(t, "one more at no path", files, write("c//", most+"m"), api.ErrLong)
	wantError(t, "one more at a folder", files, write("a", most+"m"), api.ErrLong)
	wantError(t, "one more at no path, in no repository", files[1:], write("c//", most+"m"), api.ErrForm)
	if made, e := repo.Write(files, "c", nil); e != api.OK || len(made) != len(files)+1 {
		t.Errorf("Write of no bytes: error %d", e)
	}
}

// P24.2: no file of the worktree may be a folder of another one. Others may stand between the two by their bytes.
func TestWriteFolders(t *testing.T) {
	files := working(begun(t), "a/b/c x", "d y", "d- y", "d.e y")
	for _, path := range []string{"a", "a/b", "d/e", "d/e/f", "d-/-", "a/b/c/d"} {
		wantError(t, "a folder", files, write(path, "x"), api.ErrExists)
	}
	// What is no path is told as that, also where a file is in its way.
	for _, path := range []string{"d/", "d//e", "d/.git", "d/../e", "a/b/c/" + long(150)} {
		wantError(t, "no path", files, write(path, "x"), api.ErrName)
	}
	for _, path := range []string{"a/b/c", "a/b-", "a-", "d", "ab", "a/b/cc", "a/b/d", "dd", "work"} {
		want(t, "no folder", files, write(path, "x"))
	}
	// The index has no say in it, nor have files beside the worktree.
	want(t, "a folder in the index", indexed(begun(t), slots("a/b x")), write("a", "x"))
	want(t, "a folder of other files", begun(t), write("index/a", "x"), write("reftable", "x"))
	want(t, "a path that went", want(t, "gone", files, erase("d")), write("d/e", "x"))
}

// P24.2: paths that the worktree hasn't.
func TestEraseNone(t *testing.T) {
	files := working(indexed(begun(t), slots("b x")), "a/b x", "c y")
	for _, path := range []string{"", "a", "a/", "a/b/", "a/b/c", "b", "C", "/c", "index", "../index", "work/c", long(300)} {
		wantError(t, "not there", files, erase(path), api.ErrNone)
	}
}
