package filelist_test

import (
	"strings"
	"testing"

	"codicil/api"
	"codicil/filelist"
)

// listOf answers files of these paths, without bytes.
func listOf(paths ...string) []api.File {
	var files []api.File
	for _, path := range paths {
		files = append(files, api.File{Path: path})
	}
	return files
}

// Files are in order, if their paths may be and rise strictly (chapter 13).
func TestInOrder(t *testing.T) {
	part := strings.Repeat("a", 100)
	for _, paths := range [][]string{
		{}, {"a"}, {"a", "b"}, {"B", "a"}, {"a", "a.b", "a/b", "a0"}, {"a", "a/b/c", "a/b0"}, {"\x7f", "\x80", "\xff", "\xff\xff"},
		{part + "/" + part[1:]},
	} {
		if !filelist.InOrder(listOf(paths...)) {
			t.Errorf("%q isn't in order", paths)
		}
	}
	for _, paths := range [][]string{
		{""}, {"/"}, {"a/"}, {"/a"}, {"a//b"}, {"."}, {"a/.."}, {".GIT/x"}, {"a\x00"}, {part + "a"}, {part + "/" + part},
		{"a", "a"}, {"b", "a"}, {"a/b", "a.b"}, {"a", "c", "b"}, {"b", "c", "a"}, {"a", "b", "b"}, {"a", "", "b"}, {"a", "b", "c//d"}, {"", "a"},
	} {
		if filelist.InOrder(listOf(paths...)) {
			t.Errorf("%q is in order", paths)
		}
	}
}

// A path's file is found, wherever it stands.
func TestFind(t *testing.T) {
	files := listOf("a", "a.b", "a/b", "a0", "b", "c/d")
	for i, f := range files {
		if at, there := filelist.Find(files, f.Path); at != i || !there {
			t.Errorf("Find(%q): %d, %t, wanted %d", f.Path, at, there, i)
		}
	}
	for _, path := range []string{"", "A", "a/", "a.", "a1", "c", "c/d/e", "\xff"} {
		if _, there := filelist.Find(files, path); there {
			t.Errorf("%q is found", path)
		}
	}
	if _, there := filelist.Find(nil, "a"); there {
		t.Error("a path is found among no files")
	}
}
