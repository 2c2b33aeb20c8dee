package names_test

import (
	"math"
	"math/rand"
	"strings"
	"testing"

	"codicil/api"
	"codicil/names"
)

// wantEach fails unless may answers wanted for each text.
func wantEach(t *testing.T, what string, may func(string) bool, wanted bool, texts ...string) {
	t.Helper()
	for _, s := range texts {
		if may(s) != wanted {
			t.Errorf("%s(%q): %v", what, s, !wanted)
		}
	}
}

// letters answers a text of n letters.
func letters(n int) string { return strings.Repeat("a", n) }

// everyByte answers each text of one byte.
func everyByte() []string {
	var all []string
	for b := range 256 {
		all = append(all, string([]byte{byte(b)}))
	}
	return all
}

// chance answers a text of at most n pieces, by chance.
func chance(r *rand.Rand, n int, pieces ...string) string {
	var s strings.Builder
	for range r.Intn(n + 1) {
		s.WriteString(pieces[r.Intn(len(pieces))])
	}
	return s.String()
}

// P6.1: names, with the chapter's examples.
func TestName(t *testing.T) {
	wantEach(t, "Name", names.Name, true,
		"a b", "...", "a", " ", "....", ".a", "..a", "a.", "a..", ".g", ".gi", ".gitt", ".gitignore", "git", "a.git", "xgit", ".git ", " .git", "..git", ".git.",
		"HEAD", "refs", "\\", "a\nb", "\x01", "\x7f", "\x80", "\xff", "\xff\xfe", "é", "日本", ".g\xcctt", ".gıt", ".gi\xd4", "\x2egi\x14", letters(99), letters(100), strings.Repeat("\xff", 100), strings.Repeat("é", 50))
	wantEach(t, "Name", names.Name, false,
		"", ".", "..", ".git", ".Git", ".gIt", ".giT", ".GIt", ".GiT", ".gIT", ".GIT",
		"a/b", "/", "/a", "a/", "a//b", "\x00", "a\x00", "\x00a", "a\x00b", ".git\x00", ".git/", "é/", "\xff\x00", letters(101), letters(1000), strings.Repeat("\xff", 101), strings.Repeat("é", 51))
}

// P6.1: each byte in a name, alone, and among few and many others.
func TestNameBytes(t *testing.T) {
	for _, c := range everyByte() {
		may := c != "/" && c != "\x00"
		if got := names.Name(c); got != (may && c != ".") {
			t.Errorf("Name(%q): %v", c, got)
		}
		wantEach(t, "Name", names.Name, may, "a"+c, c+"a", "a"+c+"b", "é"+c, c+"\xff", letters(50)+c+letters(49), letters(99)+c, c+letters(99), "\xff"+letters(20)+c)
	}
}

// P6.1: .git with each byte in each place: only its own letters, small or great, are it.
func TestDotGit(t *testing.T) {
	for at := range 4 {
		for _, c := range everyByte() {
			s := ".git"[:at] + c + ".git"[at+1:]
			if c == "/" {
				continue
			}
			may := c != "\x00" && !strings.EqualFold(s, ".git")
			wantEach(t, "Name", names.Name, may, s)
			wantEach(t, "Path", names.Path, may, s+"/a", "a/"+s, "a/"+s+"/b")
		}
	}
}

// P6.1: paths, with the chapter's examples.
func TestPath(t *testing.T) {
	most := letters(100) + "/" + letters(99)
	deep := strings.Repeat("a/", 99) + "aa"
	if len(most) != api.MaxPath || len(deep) != api.MaxPath {
		t.Fatal("the paths have other lengths")
	}
	wantEach(t, "Path", names.Path, true,
		"a/b.c", "a", "a b/c", ".../a", "a/...", "a/.gitx/b", "a/b/c/d/e", " / ", "\xff/\xfe", letters(100), letters(100)+"/a", "a/"+letters(100), most, letters(99)+"/"+letters(100), deep)
	wantEach(t, "Path", names.Path, false,
		"", "a//b", "/a", "a/", "/", "//", ".", "..", "./a", "a/.", "../a", "a/..", "a/../b", "a/./b", ".git", ".git/a", "a/.git", "a/.GIT/b", "a/.giT", "a\x00", "a/\x00/b", "a/b\x00",
		letters(101), "a/"+letters(101), letters(101)+"/a", most+"a", letters(100)+"/"+letters(100), deep+"a", strings.Repeat("a/", 100)+"a", letters(201), strings.Repeat("a/", 5000)+"a")
}

// P6.1: a path is the names between its slashes, whatever they are.
func TestPathIsNames(t *testing.T) {
	r := rand.New(rand.NewSource(1))
	seen := map[bool]int{}
	for range 50000 {
		s := chance(r, 8, "a", "b", "/", "/", ".", ".git", "\x00", letters(60), "\xff", "G")
		may := len(s) >= 1 && len(s) <= 200
		for rest, more := s, true; more; {
			var part string
			part, rest, more = strings.Cut(rest, "/")
			may = may && names.Name(part)
		}
		wantEach(t, "Path", names.Path, may, s)
		seen[may]++
	}
	if seen[true] < 1000 || seen[false] < 1000 {
		t.Errorf("paths that may be, and others: %v", seen)
	}
}

// P6.1: modes.
func TestMode(t *testing.T) {
	for _, m := range []int{0o40000, 0o100644, 0o100755, 0o120000, api.ModeTree, api.ModeFile, api.ModeExec, api.ModeLink} {
		if !names.Mode(m) {
			t.Errorf("Mode(%o): false", m)
		}
	}
	for _, m := range []int{math.MinInt, -1, -0o100644, 0, 1, 0o644, 0o755, 0o100600, 0o100664, 0o100645, 0o100643, 0o100754, 0o100777, 0o120777, 0o160000, 40000, 100644, 100755, 120000, 0o40001, 0o37777, 1<<32 + 0o100644, math.MaxInt} {
		if names.Mode(m) {
			t.Errorf("Mode(%o): true", m)
		}
	}
	count := 0
	for m := range 1 << 18 {
		if names.Mode(m) {
			count++
		}
	}
	if count != 4 {
		t.Errorf("%d modes", count)
	}
}

// P6.1: references, with the chapter's examples.
func TestRef(t *testing.T) {
	most := "refs/heads/" + letters(189)
	if len(most) != api.MaxPath {
		t.Fatal("the reference has another length")
	}
	wantEach(t, "Ref", names.Ref, true,
		"HEAD", "refs/heads/main", "refs/a/b", "refs/heads/a/b/c", "refs/tags/v1.0", "refs/heads/a.b.c", "refs/heads/lock", "refs/heads/a.lockx", "refs/heads/a.LOCK", "refs/heads/alock", "refs/heads/a.lock.b", "refs/a.lockb/c",
		"refs/heads/@", "refs/@/@", "refs/heads/@a", "refs/heads/a@", "refs/heads/{", "refs/heads/a{b}", "refs/heads/{@", "refs/heads/a@/{b", "refs/heads/@@", "refs/heads/@x{", "refs/heads/-a", "refs/heads/HEAD", "refs/refs/refs", "refs/heads/a.git", "refs/heads/git", "refs/stash/0",
		"refs/heads/!\"#$%&'()+,-;<=>]_`|}", most, "refs/a/"+letters(193), "refs/"+strings.Repeat("a/", 97)+"a")
	wantEach(t, "Ref", names.Ref, false,
		"", "main", "head", "HEAD ", " HEAD", "HEADS", "HEA", "Head", "HEAD/a", "HEAD/a/b", "HEAD/", "refs", "refs/", "refs//", "refs/x", "refs/x/", "refs//x", "/refs/a/b", "refs/a//b", "refs/a/b/", "/a/b", "//", "///", "heads/a/b", "Refs/a/b", "refs /a/b", "REFS/a/b", "arefs/a/b", "refsa/a/b", "a/refs/b", "a/b/c",
		"refs/heads/.a", "refs/.heads/a", "refs/heads/a.", "refs/heads./a", "refs./a/b", ".refs/a/b", "refs/./a", "refs/heads/.", "refs/heads/..", "refs/../a", "refs/heads/a.lock", "refs/heads.lock/a", "refs/a.lock/b", "refs.lock/a/b", "refs/heads/.lock", "refs/heads/a.lock.lock", "refs/heads/a.lock/b",
		"refs/heads/a..b", "refs/a..b/c", "refs/a./.b", "refs/a./b", "refs/a/.b", "refs/heads/a...b", "refs/heads/@{", "refs/heads/a@{b", "refs/a@{/b", "refs/heads/a@{1}", "refs/heads/@@{", "refs/heads/a b", "refs/heads/\xff", "refs/heads/é",
		most+"a", "refs/a/"+letters(194), "refs/"+strings.Repeat("a/", 97)+"aa", "refs/"+strings.Repeat("a/", 5000)+"a", letters(201))
}

// P6.1: each byte in a reference, in each kind of place.
func TestRefBytes(t *testing.T) {
	for b, c := range everyByte() {
		may := b > 0x20 && b < 0x7f && !strings.ContainsAny(c, "~^:?*[\\")
		wantEach(t, "Ref", names.Ref, may, "refs/heads/a"+c+"b", "refs/a"+c+"b/d", "refs/heads/"+letters(90)+c+letters(90))
		wantEach(t, "Ref", names.Ref, may && c != "." && c != "/", "refs/heads/"+c, "refs/heads/"+c+"a", "refs/"+c+"/a", "refs/"+c+"a/b", "refs/heads/a"+c, "refs/heads/"+letters(188)+c)
		wantEach(t, "Ref", names.Ref, c == "/", "refs"+c+"a/b")
		wantEach(t, "Ref", names.Ref, false, c, c+"refs/a/b", c+"HEAD", "HEAD"+c)
	}
}

// mayBeRef answers by the chapter's words, byte for byte.
func mayBeRef(s string) bool {
	if s == "HEAD" {
		return true
	}
	if len(s) < 1 || len(s) > 200 {
		return false
	}
	parts := []string{""}
	for i := 0; i < len(s); i++ {
		switch c := s[i]; {
		case c == '/':
			parts = append(parts, "")
			continue
		case c <= 32, c >= 127, c == '~', c == '^', c == ':', c == '?', c == '*', c == '[', c == '\\':
			return false
		case i > 0 && (s[i-1] == '.' && c == '.' || s[i-1] == '@' && c == '{'):
			return false
		}
		parts[len(parts)-1] += s[i : i+1]
	}
	for _, p := range parts {
		if len(p) == 0 || p[0] == '.' || p[len(p)-1] == '.' || len(p) >= 5 && p[len(p)-5:] == ".lock" {
			return false
		}
	}
	return len(parts) > 2 && parts[0] == "refs"
}

// P6.1: references by chance.
func TestRefAgainstPlain(t *testing.T) {
	r := rand.New(rand.NewSource(2))
	seen := map[bool]int{}
	for i := range 200000 {
		s := chance(r, 6, "a", "b", "/", "/", ".", ".lock", "@", "{", "~", " ", letters(60), "x.y", "HEAD")
		if i%4 > 0 {
			s = "refs/" + s
		}
		may := mayBeRef(s)
		wantEach(t, "Ref", names.Ref, may, s)
		seen[may]++
	}
	if seen[true] < 2000 || seen[false] < 2000 {
		t.Errorf("references that may be, and others: %v", seen)
	}
}

// P6.2: the chapter's examples, and trees and files whose names are beginnings of each other.
func TestOrder(t *testing.T) {
	tree := func(name string) api.Entry { return api.Entry{Mode: api.ModeTree, Name: name} }
	file := func(name string) api.Entry { return api.Entry{Mode: api.ModeFile, Name: name} }
	link := func(name string) api.Entry { return api.Entry{Mode: api.ModeLink, Name: name} }
	exec := func(name string) api.Entry { return api.Entry{Mode: api.ModeExec, Name: name} }
	odd := func(name string) api.Entry { return api.Entry{Mode: 0o160000, Name: name} }
	for i, x := range []struct {
		a, b   api.Entry
		wanted int
	}{
		{tree("a"), file("a.b"), 1}, {file("a"), tree("a"), -1}, {tree("a"), tree("a"), 0}, {file("a"), file("a"), 0}, {file("a"), file("b"), -1}, {tree("a"), tree("b"), -1},
		{tree("a"), file("a-b"), 1}, {tree("a"), file("a0"), -1}, {tree("a"), file("ab"), -1}, {tree("a"), tree("a.b"), 1}, {tree("a"), tree("ab"), -1}, {tree("a"), tree("a-"), 1}, {tree("a"), tree("a0"), -1},
		{file("a"), file("a.b"), -1}, {file("a"), tree("a.b"), -1}, {file("a"), file("ab"), -1}, {file("ab"), tree("a"), 1}, {file("a.b"), tree("a"), -1},
		{file("a"), link("a"), 0}, {exec("a"), link("a"), 0}, {exec("a"), tree("a"), -1}, {link("a"), tree("a"), -1}, {odd("a"), file("a"), 0}, {odd("a"), tree("a"), -1}, {link("a.b"), tree("a"), -1},
		{file(""), file(""), 0}, {file(""), tree(""), -1}, {tree(""), file("a"), -1}, {tree(""), file("."), 1}, {tree(""), file("/"), 0}, {tree("a"), file("a/"), 0}, {tree("a"), file("a/b"), -1}, {tree("a/"), file("a/"), 1},
		{file("\xff"), file("a"), 1}, {file("é"), file("z"), 1}, {file("Z"), file("a"), -1}, {file("a\x00"), file("a"), 1}, {file("a\x00"), tree("a"), -1}, {file("\xff"), file("\xef\xbf\xbd"), 1}, {file("\x80"), file("\x7f"), 1},
		{file(letters(300)), tree(letters(300)), -1}, {file(letters(301)), tree(letters(300)), 1},
	} {
		if got := names.Order(x.a, x.b); got != x.wanted {
			t.Errorf("%d: Order(%o %q, %o %q): %d, wanted %d", i, x.a.Mode, x.a.Name, x.b.Mode, x.b.Name, got, x.wanted)
		}
		if got := names.Order(x.b, x.a); got != -x.wanted {
			t.Errorf("%d: the other way round: %d, wanted %d", i, got, -x.wanted)
		}
	}
}

// ordered answers by the chapter's words, byte for byte.
func ordered(a, b api.Entry) int {
	byteOf := func(e api.Entry, i int) int {
		switch {
		case i < len(e.Name):
			return int(e.Name[i])
		case i == len(e.Name) && e.Mode == 0o40000:
			return '/'
		}
		return -1
	}
	for i := 0; ; i++ {
		x, y := byteOf(a, i), byteOf(b, i)
		switch {
		case x < y:
			return -1
		case x > y:
			return 1
		case x < 0:
			return 0
		}
	}
}

// P6.2: entries by chance, in form or not; the ids don't count.
func TestOrderAgainstPlain(t *testing.T) {
	r := rand.New(rand.NewSource(3))
	modes := []int{api.ModeTree, api.ModeTree, api.ModeFile, api.ModeExec, api.ModeLink, 0, -1, 0o40001, math.MaxInt}
	entry := func() api.Entry {
		e := api.Entry{Mode: modes[r.Intn(len(modes))], Name: chance(r, 4, "a", "a", "/", ".", "0", "\xff", "\x00")}
		e.Id[r.Intn(32)] = byte(r.Intn(256))
		return e
	}
	seen := map[int]int{}
	for range 100000 {
		a, b := entry(), entry()
		wanted := ordered(a, b)
		if got := names.Order(a, b); got != wanted {
			t.Fatalf("Order(%o %q, %o %q): %d, wanted %d", a.Mode, a.Name, b.Mode, b.Name, got, wanted)
		}
		seen[wanted]++
	}
	if seen[0] < 500 || seen[1] < 500 || seen[-1] < 500 {
		t.Errorf("the answers: %v", seen)
	}
}
