package object_test

import (
	"math/rand"
	"regexp"
	"slices"
	"strings"
	"testing"

	"codicil/api"
	"codicil/names"
	"codicil/object"
	"codicil/sha"
)

// commitFormat is how commits are put and parsed.
func commitFormat() format[api.Snapshot] {
	return format[api.Snapshot]{"Commit", object.PutCommit, object.ParseCommit}
}

// commitText answers how a commit is written.
func commitText(s api.Snapshot) string {
	text := "tree " + digits(s.Tree) + "\n"
	for _, id := range s.Parents {
		text += "parent " + digits(id) + "\n"
	}
	return text + "author " + identText(s.Author) + "\ncommitter " + identText(s.Committer) + "\n\n" + s.Message
}

// someCommit answers a commit with n parents.
func someCommit(n int) api.Snapshot {
	s := api.Snapshot{Tree: idOf(1000), Author: someIdents()[1], Committer: api.Ident{Name: "C", Email: "c", Time: 9, Zone: 60}, Message: "one\n\ntwo\n"}
	for i := range n {
		s.Parents = append(s.Parents, idOf(i))
	}
	return s
}

// commitForm is a commit's form; idents and counts are asked beside it.
var commitForm = regexp.MustCompile(`^tree ([0-9a-f]{64})\n((?:parent [0-9a-f]{64}\n)*)author ([^\n]*)\ncommitter ([^\n]*)\n\n([^\x00]*)$`)

// plainCommit answers by that form which commit a text is.
func plainCommit(text string) (api.Snapshot, bool) {
	m := commitForm.FindStringSubmatch(text)
	if m == nil || len(m[2]) > 16*72 || len(m[5]) > 65536 {
		return api.Snapshot{}, false
	}
	s := api.Snapshot{Message: m[5]}
	s.Tree, _ = sha.Parse(m[1])
	for line := range strings.Lines(m[2]) {
		id, _ := sha.Parse(line[7:71])
		s.Parents = append(s.Parents, id)
	}
	var author, committer api.Errno
	s.Author, author = names.ParseIdent(m[3])
	s.Committer, committer = names.ParseIdent(m[4])
	return s, author == api.OK && committer == api.OK
}

// P7.2: how a commit is written, letter by letter.
func TestCommitLetters(t *testing.T) {
	f := commitFormat()
	var tree, parent api.Id
	tree[0], parent[31] = 0xab, 0xc9
	s := api.Snapshot{Tree: tree, Parents: []api.Id{parent, tree}, Author: api.Ident{Name: "A B", Email: "a@b", Time: 5, Zone: -90}, Committer: api.Ident{Time: 6}, Message: "one\n"}
	zeros := strings.Repeat("0", 62)
	f.wantText(t, s, "tree ab"+zeros+"\nparent "+zeros+"c9\nparent ab"+zeros+"\nauthor A B <a@b> 5 -0130\ncommitter  <> 6 +0000\n\none\n")
	f.wantText(t, api.Snapshot{}, "tree 00"+zeros+"\nauthor  <> 0 +0000\ncommitter  <> 0 +0000\n\n")
	f.wantNoForm(t, "")
}

// P7.2: no parent to MaxParents and one more, one parent twice, and all 0.
func TestParents(t *testing.T) {
	f := commitFormat()
	for n := range api.MaxParents + 1 {
		f.wantText(t, someCommit(n), commitText(someCommit(n)))
	}
	for _, n := range []int{api.MaxParents + 1, api.MaxParents + 2, 1000} {
		f.wantNoPut(t, "too many parents", someCommit(n), api.ErrLong)
		f.wantNoForm(t, commitText(someCommit(n)))
	}
	f.wantNoForm(t, commitText(someCommit(14000)))
	s := someCommit(0)
	s.Parents = []api.Id{idOf(1), idOf(1), {}, s.Tree}
	f.wantText(t, s, commitText(s))
	s.Parents = []api.Id{}
	f.wantText(t, s, commitText(s))
}

// P7.2: idents at their edges, and idents that are none.
func TestCommitIdents(t *testing.T) {
	f := commitFormat()
	for _, i := range someIdents() {
		s := someCommit(1)
		s.Author = i
		f.wantText(t, s, commitText(s))
		s.Committer, s.Author = i, someIdents()[1]
		f.wantText(t, s, commitText(s))
	}
	for _, i := range noIdents() {
		s := someCommit(1)
		s.Author = i
		f.wantNoPut(t, "an author that is none", s, api.ErrName)
		s.Committer = i
		f.wantNoPut(t, "two idents that are none", s, api.ErrName)
		s.Author = api.Ident{}
		f.wantNoPut(t, "a committer that is none", s, api.ErrName)
	}
	text := commitText(someCommit(1))
	for _, who := range []string{"", " ", "A", "A B <a@b>", "A B <a@b> 5", "A B <a@b> 05 -0130", "A B <a@b> 5 -0000", "A B <a@b> 5 +0060", "A B <a@b> 5 -0130 ", "A B <a@b> 5 -0130\r", "A B <a@b> 1099511627777 +0000", letters(101) + " <> 5 +0000", "\x00 <> 5 +0000", "<> 5 +0000"} {
		f.wantNoForm(t, strings.Replace(text, "A B <a@b> 5 -0130", who, 1), strings.Replace(text, "C <c> 9 +0100", who, 1))
	}
}

// messages answers messages that may be.
func messages() []string {
	return []string{"", "a", "\n", "\n\n", "one", "one\n", "\none\n\n\ntwo", " ", "tree a\n", "author  <> 0 +0000\n", "\ncommitter", "\r\n", "\x01\x7f\x80\xff", "é", strings.Repeat("a", api.MaxText-1), strings.Repeat("\n", api.MaxText), strings.Repeat("\xff", api.MaxText)}
}

// P7.2: messages with no byte, MaxText and one more, and with a byte 0.
func TestCommitMessages(t *testing.T) {
	f := commitFormat()
	for _, m := range messages() {
		s := someCommit(2)
		s.Message = m
		f.wantText(t, s, commitText(s))
	}
	for m, wanted := range wrongMessages() {
		s := someCommit(2)
		s.Message = m
		f.wantNoPut(t, "a wrong message", s, wanted)
		f.wantNoForm(t, commitText(s))
	}
	f.wantLong(t, commitText(someCommit(1)), api.ErrForm)
	f.wantLong(t, "", api.ErrForm)
}

// wrongMessages answers messages that may not be, and their errors.
func wrongMessages() map[string]api.Errno {
	return map[string]api.Errno{
		"\x00": api.ErrForm, "a\x00": api.ErrForm, "\x00a": api.ErrForm, "a\x00b\n": api.ErrForm, strings.Repeat("\xff", api.MaxText-1) + "\x00": api.ErrForm,
		letters(api.MaxText + 1): api.ErrLong, letters(2 * api.MaxText): api.ErrLong, letters(api.MaxText) + "\x00": api.ErrLong,
	}
}

// P7.2: two errors at one time.
func TestCommitTwoErrors(t *testing.T) {
	f := commitFormat()
	who := api.Ident{Name: "\n"}
	s := someCommit(17)
	s.Author, s.Message = who, "\x00"
	f.wantNoPut(t, "too many parents, an ident and a message", s, api.ErrLong)
	s = someCommit(0)
	s.Committer, s.Message = who, letters(api.MaxText)+"\x00"
	f.wantNoPut(t, "an ident and a message that is too long", s, api.ErrLong)
	s.Message = "\x00"
	f.wantNoPut(t, "a committer and a byte 0", s, api.ErrName)
	s.Author, s.Committer = s.Committer, s.Author
	f.wantNoPut(t, "an author and a byte 0", s, api.ErrName)
}

// wantNoLines fails unless a text with a line less, a line twice, or two lines the other way round is refused, but for those that may stand so.
func wantNoLines[T any](t *testing.T, f format[T], text string, plain func(string) (T, bool)) {
	t.Helper()
	head, message, _ := strings.Cut(text, "\n\n")
	lines := strings.SplitAfter(head+"\n", "\n")
	lines = lines[:len(lines)-1]
	build := func(l []string) string { return strings.Join(l, "") + "\n" + message }
	read := 0
	for i := range lines {
		without := slices.Delete(slices.Clone(lines), i, i+1)
		twice := slices.Insert(slices.Clone(lines), i, lines[i])
		for _, l := range [][]string{without, twice} {
			if f.wantPlain(t, build(l), plain) && !strings.HasPrefix(lines[i], "parent ") {
				t.Errorf("without %q, or with it twice, it is read", lines[i])
			}
		}
		for j := range len(lines) + 1 {
			for _, other := range []string{"", "\n", "x\n", " \n", "encoding a\n", "gpgsig a\n", "mergetag a\n", "parent\n", "tagger  <> 0 +0000\n"} {
				f.wantNoForm(t, build(slices.Insert(slices.Clone(lines), j, " "+other)))
				if other != "" && (other != "\n" || j < len(lines)) {
					f.wantNoForm(t, build(slices.Insert(slices.Clone(lines), j, other)))
				}
			}
		}
		for j := range i {
			turned := slices.Clone(lines)
			turned[i], turned[j] = turned[j], turned[i]
			if f.wantPlain(t, build(turned), plain) {
				read++
			}
		}
	}
	parents := strings.Count(head, "\nparent ")
	if read != parents*(parents-1)/2 {
		t.Errorf("%d texts with two lines the other way round are read", read)
	}
}

// P7.2: lines missing, twice, in another order, or such as a commit hasn't.
func TestCommitLines(t *testing.T) {
	for _, n := range []int{0, 1, 3} {
		wantNoLines(t, commitFormat(), commitText(someCommit(n)), plainCommit)
	}
	text := commitText(someCommit(1))
	f := commitFormat()
	head, message, _ := strings.Cut(text, "\n\n")
	f.wantNoForm(t, head, head+"\n", head+"\n"+message, head+message, message, "\n\n"+message, "\n"+text, " "+text, head+"\r\n\r\n"+message, head+"\n \n"+message)
	for _, word := range []string{"tree", "parent", "author", "committer"} {
		for _, other := range []string{"", "x", strings.ToUpper(word), word[:len(word)-1], word + "s", word + ":", " " + word, "\t" + word} {
			f.wantNoForm(t, strings.Replace(text, word+" ", other+" ", 1))
		}
		f.wantNoForm(t, strings.Replace(text, word+" ", word+"\t", 1), strings.Replace(text, word+" ", word, 1), strings.Replace(text, word+" ", word+"\n", 1))
	}
}

// P7.2: ids in other letters, too short, too long.
func TestCommitIds(t *testing.T) {
	f := commitFormat()
	s := someCommit(1)
	s.Tree, s.Parents[0] = api.Id{0xab, 0xcd}, api.Id{31: 0xef}
	text := commitText(s)
	f.wantText(t, s, text)
	for _, id := range []api.Id{s.Tree, s.Parents[0]} {
		d := digits(id)
		for _, other := range []string{strings.ToUpper(d), strings.Replace(d, "a", "A", 1), strings.Replace(d, "f", "F", 1), d[1:], d[:63], d[:40], d + "0", "0" + d, "", " " + d, d + " ", "g" + d[1:], d[:63] + "g", d[:63] + "\n", d[:32] + "\n" + d[32:], "0x" + d[2:], d + d, d + "\r"} {
			if other != d {
				f.wantNoForm(t, strings.Replace(text, d, other, 1))
			}
		}
	}
}

// P7.2, P7.4: a commit's bytes cut, turned, and with bytes behind.
func TestCommitTurned(t *testing.T) {
	short := api.Snapshot{Tree: idOf(3), Message: "a\n"}
	for _, s := range []api.Snapshot{{}, short, someCommit(2)} {
		commitFormat().wantTurned(t, commitText(s), plainCommit)
	}
}

// P7.2, P7.4: commits by chance.
func TestCommitsByChance(t *testing.T) {
	r := rand.New(rand.NewSource(3))
	for range 3000 {
		s := api.Snapshot{Tree: anyId(r), Author: anyIdent(r), Committer: anyIdent(r), Message: chance(r, 6, "a", "\n", " ", "\n\n", "tree ", "\xff", "parent "+digits(idOf(1))+"\n", letters(1000))}
		for range r.Intn(18) {
			s.Parents = append(s.Parents, anyId(r))
		}
		if len(s.Parents) > 16 {
			commitFormat().wantNoPut(t, "17 parents", s, api.ErrLong)
			continue
		}
		commitFormat().wantText(t, s, commitText(s))
		commitFormat().wantPlain(t, commitText(s), plainCommit)
	}
}

// The rule 'Memory', for commits.
func TestCommitMemory(t *testing.T) {
	s := someCommit(3)
	s.Author.Name, s.Author.Email, s.Committer.Name, s.Message = letters(40), letters(50), letters(60), letters(70)
	s.Parents = append(make([]api.Id, 0, 10), s.Parents...)
	kept := slices.Clone(s.Parents)
	commitFormat().wantOwn(t, s)
	if !slices.Equal(s.Parents, kept) || slices.ContainsFunc(s.Parents[3:10], func(id api.Id) bool { return id != api.Id{} }) {
		t.Error("PutCommit changes its argument")
	}
	first, _ := object.ParseCommit([]byte(commitText(s)))
	second, _ := object.ParseCommit([]byte(commitText(s)))
	wantApart(t, first.Author.Name, first.Author.Email, first.Committer.Name, first.Message, second.Author.Name, second.Author.Email, second.Committer.Name, second.Message)
	clear(second.Parents[:cap(second.Parents)])
	if !slices.Equal(first.Parents, kept) {
		t.Error("two answers of ParseCommit share memory")
	}
}
