package shell_test

import (
	"slices"
	"strings"
	"testing"

	"codicil/api"
	"codicil/fs"
	"codicil/repo"
	"codicil/shell"
)

// P27.1: of a new disk a new repository, by who at the time 0, whatever Time who has; of one with files these.
func TestOpen(t *testing.T) {
	wanted, _ := repo.Init(me())
	for _, time := range []int{0, 5, -1, 1 << 50} {
		d := newDisk(t)
		s, e := shell.Open(d, at(time))
		if e != api.OK {
			t.Fatalf("Time %d: error %d", time, e)
		}
		if got := filesOf(t, s); !sameFiles(got, wanted) {
			t.Errorf("Time %d: %d files", time, len(got))
		}
		if c, _ := d.Crash(nil); !sameFiles(filesOf(t, opened(t, c)), wanted) {
			t.Errorf("Time %d: it is another repository behind a crash", time)
		}
		if twice, e := shell.Open(d, api.Ident{Name: "Y"}); e != api.OK || !sameFiles(filesOf(t, twice), wanted) {
			t.Errorf("Time %d: opened again, error %d", time, e)
		}
	}
	// Whatever files there are: they stay, and need not be a repository.
	for _, files := range [][]api.File{{{Path: "x", Data: []byte("y")}}, {{Path: "index"}}, wanted[1:]} {
		s := opened(t, holding(t, files))
		if got := filesOf(t, s); !sameFiles(got, files) {
			t.Errorf("%v: the files are %v", files, got)
		}
		wantError(t, "no repository", s, told("status", 1), api.ErrForm)
		wantText(t, "no repository", s, told("fsck", 1), "problems")
	}
	// Of other files of the disk it takes no notice.
	d := newDisk(t)
	d.Create("x")
	d.Create("index")
	if got := filesOf(t, opened(t, d)); !sameFiles(got, wanted) {
		t.Errorf("%d files", len(got))
	}
}

// P27.1: Open's errors, beside which there is no Shell.
func TestOpenErrors(t *testing.T) {
	off, refusing, small, full := newDisk(t), newDisk(t), (*fs.Disk)(nil), newDisk(t)
	off.Plan(nil, 1)
	off.Create("x")
	refusing.Plan([]int{1}, 0)
	small, _ = fs.New(20)
	full, _ = fs.New(1000)
	full.Create("x")
	full.Append("x", make([]byte, 900))
	for _, x := range []struct {
		what string
		d    *fs.Disk
		who  api.Ident
		e    api.Errno
	}{
		{"nil", nil, me(), api.ErrNone}, {"nil, and no ident", nil, api.Ident{Name: "\n"}, api.ErrName}, {"off", off, me(), api.ErrOff}, {"off, and no ident", off, api.Ident{Email: ">"}, api.ErrName},
		{"refused", refusing, me(), api.ErrDisk}, {"no room", small, me(), api.ErrFull}, {"full", full, me(), api.ErrFull},
		{"a long name", newDisk(t), api.Ident{Name: strings.Repeat("x", 101)}, api.ErrName}, {"a byte 0", newDisk(t), api.Ident{Name: "\x00"}, api.ErrName},
		{"a zone", newDisk(t), api.Ident{Zone: 1440}, api.ErrName}, {"no name is one", newDisk(t), api.Ident{}, api.OK}, {"the greatest zone", newDisk(t), api.Ident{Zone: -1439}, api.OK},
	} {
		s, e := shell.Open(x.d, x.who)
		if e != x.e || (s == nil) != (e != api.OK) {
			t.Errorf("%s: %v, error %d, wanted error %d", x.what, s, e, x.e)
		}
	}
	// A refusal is no lasting harm: nothing, or all, is there.
	wantText(t, "refused, then not", opened(t, refusing), told("status", 1), "")
}

// 'Nil objects': a nil Shell; and one that was never opened.
func TestNil(t *testing.T) {
	var s *shell.Shell
	for _, words := range [][]string{nil, {"status"}, {"what"}, {"write", "a"}} {
		for _, now := range []int{0, -1} {
			if text, e := s.Do(words, nil, now); text != "" || e != api.ErrNone {
				t.Errorf("Do(%q): %q, error %d", words, text, e)
			}
		}
	}
	if files, e := s.Files(); len(files) != 0 || e != api.ErrNone {
		t.Errorf("Files: %d, error %d", len(files), e)
	}
	s = &shell.Shell{}
	if text, e := s.Do([]string{"status"}, nil, 0); text != "" || e == api.OK {
		t.Errorf("Do: %q, error %d", text, e)
	}
	if files, e := s.Files(); len(files) != 0 || e == api.OK {
		t.Errorf("Files: %d, error %d", len(files), e)
	}
}

// 'Memory': what Files answers is new memory, and neither words nor bytes are kept or changed.
func TestMemory(t *testing.T) {
	s := opened(t, newDisk(t))
	words := append(make([]string, 0, 3), "write", "aa/bb")
	words[:3][2] = "spare"
	data := append(make([]byte, 0, 10), "xyz"...)
	data[:4][3] = 0xa5
	if _, e := s.Do(words, data, 1); e != api.OK {
		t.Fatalf("error %d", e)
	}
	if words[0] != "write" || words[1] != "aa/bb" || words[:3][2] != "spare" || string(data[:4]) != "xyz\xa5" {
		t.Error("Do changes what it is handed")
	}
	clear(words)
	clear(data)
	one, two := filesOf(t, s), filesOf(t, s)
	for _, f := range two {
		clear(f.Data[:cap(f.Data)])
	}
	clear(two)
	at := slices.IndexFunc(one, func(f api.File) bool { return f.Path == "work/aa/bb" })
	if at < 0 || string(one[at].Data) != "xyz" || !sameFiles(one, filesOf(t, s)) {
		t.Error("the files change with others")
	}
	wantText(t, "all is there", s, told("status", 1), " ? aa/bb\n")
}
