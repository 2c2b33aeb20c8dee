package shell_test

import (
	"fmt"
	"slices"
	"strings"
	"testing"

	"codicil/api"
	"codicil/maint"
	"codicil/refs"
	"codicil/repo"
	"codicil/sha"
	"codicil/shell"
)

// tip answers the digits of the tip.
func tip(t *testing.T, s *shell.Shell) string {
	t.Helper()
	_, id, e := repo.Head(filesOf(t, s))
	if e != api.OK {
		t.Fatalf("Head: error %d", e)
	}
	return sha.Hex(id)
}

// The chapter's example, and DOC.md's ten, by the shell.
func TestExamples(t *testing.T) {
	d := newDisk(t)
	s := opened(t, d)
	wantOK(t, "1", s, script("write a|x", "add a")...)
	one, e := wantDone(t, "1", s, told("commit one", 12))
	if len(one) != 64 || e != api.OK || one != tip(t, s) {
		t.Errorf("commit: %q, error %d", one, e)
	}
	wantText(t, "1", s, told("status", 13), "")
	wantError(t, "1", s, told("nothing", 13), api.ErrWord)
	wantError(t, "1", s, told("switch b", 13), api.ErrNone)
	wantOK(t, "2", s, told("write a|y", 14))
	wantText(t, "2", s, told("status", 14), " M a\n")
	wantOK(t, "2", s, told("add a", 14))
	wantText(t, "2", s, told("status", 14), "M  a\n")
	two, _ := wantDone(t, "2", s, told("commit two", 15))
	wantText(t, "2", s, told("log HEAD", 15), two+"\n"+one+"\n")
	wantOK(t, "3", s, script("branch b HEAD", "switch b", "write c|c", "add c")...)
	three, _ := wantDone(t, "3", s, told("commit three", 20))
	wantOK(t, "3", s, told("switch main", 21))
	if files, _ := repo.Work(filesOf(t, s)); len(files) != 1 {
		t.Errorf("the worktree has %v", files)
	}
	wantText(t, "4", s, told("merge b", 22), "done")
	if got := tip(t, s); got != three {
		t.Errorf("the tip is %s, wanted %s", got, three)
	}
	wantOK(t, "5", s, script("write a|1\n", "add a", "commit four", "switch b", "write a|2\n", "add a", "commit five", "switch main")...)
	ahead := filesOf(t, s)
	wantText(t, "5", s, told("merge b", 30), "stopped")
	wantText(t, "5", s, told("status", 31), "UM a\n")
	work, _ := repo.Work(filesOf(t, s))
	if text := string(work[0].Data); !strings.HasPrefix(text, "<<<<<<< HEAD\n1\n") || !strings.Contains(text, "2\n>>>>>>> ") {
		t.Errorf("a is %q", text)
	}
	wantText(t, "6", s, told("abort", 32), "")
	wantSame(t, "6", filesOf(t, s), ahead)
	wantText(t, "5", s, told("merge b", 33), "stopped")
	wantOK(t, "5", s, script("write a|3\n", "add a")...)
	wantText(t, "5", s, told("continue", 34), "done")
	if text, _ := wantDone(t, "5", s, told("log main", 35)); strings.Count(text, "\n") != 6 {
		t.Errorf("the log is %q", text)
	}
	wantOK(t, "7", s, script("write a|1\n2\n3\n", "add a", "commit six", "reset soft HEAD", "branch d HEAD", "write d|1\n2\n3\n", "erase a", "add d", "add a", "commit moved", "switch d", "write a|1\n2\nx\n", "add a", "commit line", "switch main")...)
	wantText(t, "7", s, told("merge d", 60), "done")
	if files, _ := repo.Work(filesOf(t, s)); len(files) != 2 || files[1].Path != "d" || string(files[1].Data) != "1\n2\nx\n" {
		t.Errorf("the worktree has %q", files)
	}
	wantOK(t, "8", s, script("branch e HEAD", "write e|1\n", "add e", "commit e1", "write d|clash", "add d", "commit e2", "write f|1\n", "add f", "commit e3", "switch e", "write d|other", "add d", "commit o1", "switch main")...)
	wantText(t, "8", s, told("rebase e", 90), "stopped")
	if word, todo := todoOf(t, s); word != "rebase" || todo != 2 {
		t.Errorf("Todo is %q, %d", word, todo)
	}
	wantText(t, "8", s, told("skip", 91), "done")
	wantText(t, "8", s, told("status", 92), "")
	log, _ := wantDone(t, "10", s, told("log HEAD", 93))
	wantOK(t, "10", s, told("gc 0", 94))
	packs := 0
	for _, f := range filesOf(t, s) {
		if strings.HasSuffix(f.Path, ".pack") {
			packs++
		}
	}
	if packs != 1 {
		t.Errorf("there are %d packs", packs)
	}
	wantText(t, "10", s, told("log HEAD", 95), log)
	wantText(t, "10", s, told("fsck", 96), "clean")
	c, _ := d.Crash(nil)
	files := filesOf(t, opened(t, c))
	for _, f := range files {
		if strings.HasSuffix(f.Path, ".pack") {
			f.Data[len(f.Data)/2] ^= 1
		}
	}
	wantText(t, "10", opened(t, holding(t, files)), told("fsck", 97), "problems")
}

// wantSame fails unless references, index and worktree are as they were.
func wantSame(t *testing.T, what string, files, was []api.File) {
	t.Helper()
	a, _ := refs.List(files)
	b, _ := refs.List(was)
	l, _ := repo.Index(files)
	m, _ := repo.Index(was)
	alike := slices.EqualFunc(l, m, func(x, y api.Slot) bool { return x.Path == y.Path && x.Stage == y.Stage && x.Id == y.Id })
	v, _ := repo.Work(files)
	w, _ := repo.Work(was)
	if !slices.Equal(a, b) || !alike || !sameFiles(v, w) {
		t.Errorf("%s: %v, %v, it was %v, %v", what, a, l, b, m)
	}
}

// all answers every command with good words.
func all() []string {
	return []string{"write a", "erase a", "add a", "commit m", "branch n HEAD", "switch b", "reset hard HEAD", "merge b", "rebase b", "pick b", "continue", "skip", "pop", "abort", "stash", "gc 5", "fsck", "status", "log HEAD"}
}

// P27.2: no such command, or another count of words; ahead of a wrong now, which is ahead of the command's error.
func TestWords(t *testing.T) {
	s := opened(t, newDisk(t))
	for _, words := range [][]string{nil, {}, {""}, {"", ""}, {"what"}, {"Write", "a"}, {"WRITE", "a"}, {" write", "a"}, {"write ", "a"}, {"writ", "a"}, {"writes", "a"}, {"init"}, {"todo"}, {"head"}, {"index"}, {"work"}, {"write a"}, {"cherry-pick", "b"}, {"done"}, {"help"}} {
		for _, now := range []int{1, -1} {
			wantError(t, "no command", s, step{words, "x", now}, api.ErrWord)
		}
	}
	for _, text := range all() {
		x := told(text, -1)
		for n := range 5 {
			words := append(slices.Clone(x.words), "1", "2", "3", "4")[:1+n]
			if len(words) != len(x.words) {
				wantError(t, "another count", s, step{words, "", -1}, api.ErrWord)
				wantError(t, "another count", s, step{words, "", 1}, api.ErrWord)
			}
		}
		for _, now := range []int{-1, 1 << 32, -1 << 63, 1<<63 - 1} {
			x.now = now
			wantError(t, "now", s, x, api.ErrArg)
		}
	}
	wantError(t, "now ahead of no such way", s, told("reset x none", -1), api.ErrArg)
	wantError(t, "now ahead of no such branch", s, told("log none", 1<<32), api.ErrArg)
}

// P27.2: now at 0 and at 2^32 - 1: who does it at that time, and the index has it.
func TestNow(t *testing.T) {
	for _, now := range []int{0, 1<<32 - 1} {
		s := opened(t, newDisk(t))
		wantOK(t, "now", s, told("write a|x", now), told("add a", now), told("commit m", now), told("branch b HEAD", now), told("status", now), told("log b", now), told("gc 0", now), told("fsck", now))
		notes, _ := refs.Notes(filesOf(t, s), "refs/heads/main")
		if len(notes) != 1 || notes[0].Who != at(now) {
			t.Errorf("the notes are %v", notes)
		}
		if l, _ := repo.Index(filesOf(t, s)); len(l) != 1 || l[0].Time != now {
			t.Errorf("the index has %v", l)
		}
	}
}

// grown answers a shell with branches b and c beside main, whose files clash, and the commits' digits.
func grown(t *testing.T) (*shell.Shell, map[string]string) {
	t.Helper()
	s := opened(t, newDisk(t))
	wantOK(t, "grown", s, script("write a|x\n", "add a", "commit one", "branch b HEAD", "branch c HEAD", "switch b", "write a|y\n", "add a", "commit two", "switch c", "write d|z\n", "add d", "commit three", "switch main", "write a|w\n", "add a", "commit four")...)
	ids := map[string]string{"HEAD": tip(t, s)}
	list, _ := refs.List(filesOf(t, s))
	for _, r := range list {
		ids[strings.TrimPrefix(r.Name, "refs/heads/")] = sha.Hex(r.Id)
	}
	ids["HEAD"] = tip(t, s)
	return s, ids
}

// P27.2: ids by digits, by a branch's name, by HEAD: each command with one does the same.
func TestIds(t *testing.T) {
	for _, command := range []string{"branch n R", "reset soft R", "reset mixed R", "reset hard R", "merge R", "rebase R", "pick R", "log R"} {
		for _, name := range []string{"b", "c", "main", "HEAD"} {
			var texts []string
			var files [][]api.File
			for range 2 {
				s, ids := grown(t)
				word := name
				if len(texts) == 1 {
					word = ids[name]
				}
				text, e := wantDone(t, name, s, told(strings.ReplaceAll(command, "R", word), 90))
				texts, files = append(texts, fmt.Sprint(text, e)), append(files, filesOf(t, s))
			}
			if texts[0] != texts[1] || !sameFiles(files[0], files[1]) {
				t.Errorf("%s with %s: %q", command, name, texts)
			}
		}
		s, ids := grown(t)
		for _, word := range []string{"none", "", "refs/heads/b", "B", "b/", "head", "main ", ids["b"][:63], ids["b"] + "0", strings.ToUpper(ids["b"]), ids["b"][:7], "HEAD~1", "@"} {
			x := told(strings.ReplaceAll(command, "R", "?"), 90)
			x.words[len(x.words)-1] = word
			wantError(t, "none of these", s, x, api.ErrNone)
		}
		// Digits are always there: it is the call that has an error.
		wantError(t, "digits", s, told(strings.ReplaceAll(command, "R", strings.Repeat("0", 64)), 90), api.ErrNone)
		tree := wordOfTree(t, s)
		wantError(t, "digits of a tree", s, told(strings.ReplaceAll(command, "R", tree), 90), api.ErrType)
		unborn := opened(t, newDisk(t))
		wantError(t, "no tip", unborn, told(strings.ReplaceAll(command, "R", "HEAD"), 90), api.ErrNone)
		wantError(t, "no branch", unborn, told(strings.ReplaceAll(command, "R", "main"), 90), api.ErrNone)
	}
}

// wordOfTree answers the digits of a tree.
func wordOfTree(t *testing.T, s *shell.Shell) string {
	t.Helper()
	files := filesOf(t, s)
	_, id, _ := repo.Head(files)
	ids, e := maint.Reach(files, []api.Id{id})
	if e != api.OK || len(ids) < 2 {
		t.Fatalf("Reach: %d ids, error %d", len(ids), e)
	}
	list, _ := repo.SlotsAt(files, id)
	for _, one := range ids {
		if word := sha.Hex(one); one != id && one != list[0].Id {
			if _, e := s.Do([]string{"log", word}, nil, 1); e == api.ErrType {
				return word
			}
		}
	}
	t.Fatal("there is no tree")
	return ""
}

// P27.2: a branch whose name is digits, or HEAD: digits are always the id; a branch's name is asked ahead of HEAD.
func TestOddBranches(t *testing.T) {
	s, ids := grown(t)
	wantOK(t, "odd", s, told("branch "+ids["c"]+" b", 80), told("branch HEAD c", 81))
	wantText(t, "digits", s, told("log "+ids["c"], 82), ids["c"]+"\n"+logTail(t, s, "c"))
	wantText(t, "HEAD", s, told("log HEAD", 83), ids["c"]+"\n"+logTail(t, s, "c"))
	files := filesOf(t, s)
	changes, e := refs.Update(files, []refs.Edit{{Ref: api.Ref{Name: "refs/heads/t", Target: "refs/heads/b"}, Any: true}}, at(1), "m")
	if e != api.OK {
		t.Fatalf("error %d", e)
	}
	for _, c := range changes {
		files = slices.DeleteFunc(files, func(f api.File) bool { return f.Path == c.Path })
		if !c.Gone {
			files = append(files, api.File{Path: c.Path, Data: c.Data})
		}
	}
	wantError(t, "a branch with a Target has no Id", opened(t, holding(t, files)), told("log t", 84), api.ErrNone)
}

// logTail answers the log of a branch behind its first line.
func logTail(t *testing.T, s *shell.Shell, name string) string {
	t.Helper()
	text, _ := wantDone(t, "log", s, told("log "+name, 85))
	_, rest, _ := strings.Cut(text, "\n")
	return rest
}

// P27.2: errors of words come ahead of the call's: reset's ways ahead of its id, gc's digits ahead of all.
func TestWordErrors(t *testing.T) {
	s, _ := grown(t)
	for _, way := range []string{"", "Soft", "soft ", "0", "1", "2", "keep", "merge", "HARD", "mixe", "softer"} {
		for _, id := range []string{"none", "HEAD", strings.Repeat("0", 64)} {
			wantError(t, "no such way", s, step{[]string{"reset", way, id}, "", 5}, api.ErrArg)
		}
	}
	wantError(t, "no such id", s, told("reset hard none", 5), api.ErrNone)
	wantError(t, "no such id ahead of no name", s, told("branch // none", 5), api.ErrNone)
	wantError(t, "no name", s, told("branch // HEAD", 5), api.ErrName)
	for k, e := range map[string]api.Errno{
		"0": 0, "00": 0, "5": 0, "9999999999": 0, "0000000000": 0, "0000000007": 0,
		"": api.ErrArg, "00000000000": api.ErrArg, "10000000000": api.ErrArg, "99999999999999999999": api.ErrArg, "-1": api.ErrArg, "+1": api.ErrArg, "1 ": api.ErrArg, " 1": api.ErrArg, "1a": api.ErrArg, "0x1": api.ErrArg, "1_0": api.ErrArg, "1.0": api.ErrArg, "x": api.ErrArg, "１": api.ErrArg, "/": api.ErrArg, ":": api.ErrArg,
	} {
		wantError(t, "gc "+k, s, step{[]string{"gc", k}, "", 5}, e)
	}
	broken := opened(t, holding(t, []api.File{{Path: "x"}}))
	wantError(t, "gc, and no repository", broken, told("gc x", 5), api.ErrArg)
	wantError(t, "reset, and no repository", broken, told("reset x y", 5), api.ErrArg)
	for _, text := range all() {
		x := told(text, 5)
		wanted := api.ErrForm
		if text == "fsck" {
			wanted = 0
		}
		if _, e := wantDone(t, "no repository", broken, x); e != wanted {
			t.Errorf("no repository, %s: error %d", text, e)
		}
	}
	// By digits the call itself is asked, which may need no more than files in order.
	wantError(t, "log by digits", broken, told("log "+strings.Repeat("0", 64), 5), api.ErrNone)
}

// P27.2: each command's answer, where it is done, and where the call has an error.
func TestTable(t *testing.T) {
	s, ids := grown(t)
	wantText(t, "table", s, told("write n/o|text", 40), "")
	wantText(t, "table", s, told("status", 40), " ? n/o\n")
	wantError(t, "table", s, told("write n|text", 40), api.ErrExists)
	wantText(t, "table", s, told("add n/o", 41), "")
	wantText(t, "table", s, told("status", 41), "A  n/o\n")
	wantText(t, "table", s, told("stash", 42), "")
	wantText(t, "table", s, told("pop", 43), "done")
	wantText(t, "table", s, told("erase n/o", 44), "")
	wantError(t, "table", s, told("erase n/o", 44), api.ErrNone)
	wantText(t, "table", s, told("status", 44), "AD n/o\n")
	wantText(t, "table", s, told("add n/o", 45), "")
	wantError(t, "table", s, told("commit m", 46), api.ErrSame)
	wantError(t, "table", s, told("stash", 46), api.ErrSame)
	wantText(t, "table", s, told("pick c", 47), "done")
	wantText(t, "table", s, told("pick b", 48), "stopped")
	wantError(t, "table", s, told("continue", 49), api.ErrClash)
	wantError(t, "table", s, told("stash", 49), api.ErrBusy)
	wantError(t, "table", s, told("commit m", 49), api.ErrClash)
	wantText(t, "table", s, told("skip", 50), "done")
	wantError(t, "table", s, told("skip", 51), api.ErrBusy)
	wantText(t, "table", s, told("rebase b", 52), "stopped")
	wantText(t, "table", s, told("write a|both\n", 53), "")
	wantText(t, "table", s, told("add a", 54), "")
	wantText(t, "table", s, told("continue", 55), "done")
	wantText(t, "table", s, told("fsck", 56), "clean")
	wantText(t, "table", s, told("reset hard "+ids["HEAD"], 57), "")
	wantText(t, "table", s, told("log HEAD", 58), ids["HEAD"]+"\n"+logTail(t, s, "main"))
	wantText(t, "table", s, told("gc 1000", 59), "")
	wantText(t, "table", s, told("switch c", 60), "")
	wantText(t, "table", s, told("merge b", 61), "done")
	wantText(t, "table", s, told("write a|later\n", 62), "")
	wantText(t, "table", s, told("stash", 63), "")
	wantText(t, "table", s, told("reset hard main", 64), "")
	wantText(t, "table", s, told("pop", 65), "stopped")
	wantError(t, "table", s, told("pop", 66), api.ErrDirty)
	wantText(t, "table", s, told("status", 67), "UM a\n")
	// The bytes are write's alone.
	for _, text := range all()[1:] {
		x := told(text, 70)
		x.data = "unasked for"
		wantDone(t, "bytes", s, x)
	}
}

// todoOf answers what is under way, and how much is to do.
func todoOf(t *testing.T, s *shell.Shell) (string, int) {
	t.Helper()
	for _, f := range filesOf(t, s) {
		if f.Path == "seq" {
			word, rest, _ := strings.Cut(string(f.Data), "\n")
			return word, strings.Count(rest, "\n") - 1
		}
	}
	return "", 0
}

// P27.2: what has too many bytes for one commit of the store has txfile's error, and changes nothing.
func TestTooMuch(t *testing.T) {
	s := opened(t, newDisk(t))
	wantOK(t, "too much", s, step{[]string{"write", "a"}, strings.Repeat("x", api.MaxData), 1})
	wantError(t, "too much", s, step{[]string{"write", "a"}, strings.Repeat("x", api.MaxData+1), 1}, api.ErrLong)
	wantOK(t, "too much", s, step{[]string{"write", "a"}, noise(700000), 1})
	wantOK(t, "too much", s, told("add a", 2), told("commit one", 3), told("branch b HEAD", 4))
	wantOK(t, "too much", s, step{[]string{"write", "b"}, noise(700001), 5})
	wantOK(t, "too much", s, told("add b", 6), told("commit two", 7))
	// Both files go or come at one time with the others: these are small, but the pack of all is not.
	before := filesOf(t, s)
	if text, e := s.Do([]string{"gc", "1000"}, nil, 8); text != "" || e != api.ErrLong {
		t.Errorf("gc: %q, error %d", text, e)
	}
	if !sameFiles(filesOf(t, s), before) {
		t.Error("a command with an error has changed something")
	}
	wantText(t, "too much", s, told("fsck", 9), "clean")
}

// noise answers bytes that hardly get shorter.
func noise(n int) string {
	p := make([]byte, n)
	x := uint64(n)
	for i := range p {
		x ^= x << 13
		x ^= x >> 7
		x ^= x << 17
		p[i] = byte(x >> 24)
	}
	return string(p)
}
