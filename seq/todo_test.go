package seq_test

import (
	"fmt"
	"slices"
	"strings"
	"testing"

	"codicil/api"
	"codicil/seq"
)

// some answers n ids.
func some(n int) []api.Id {
	var list []api.Id
	for i := range n {
		list = append(list, api.Id{0xab, byte(i >> 8), byte(i)})
	}
	return list
}

// P25.6: what is under way, by each word, with each count of commits, whatever the ids are.
func TestTodo(t *testing.T) {
	files := begun()
	if word, todo, e := seq.Todo(files); word != "" || len(todo) != 0 || e != api.OK {
		t.Errorf("nothing under way: %q, %v, error %d", word, todo, e)
	}
	for _, one := range []struct {
		word   string
		counts []int
	}{{"merge", []int{1}}, {"pick", []int{1, 2, 3, 255, 256}}, {"rebase", []int{1, 2, 256}}} {
		for _, n := range one.counts {
			for _, start := range []api.Id{{1}, {}, {31: 0xff}} {
				word, todo, e := seq.Todo(patched(files, map[string][]byte{"seq": seqText(one.word, start, some(n)...)}))
				if word != one.word || !slices.Equal(todo, some(n)) || e != api.OK {
					t.Errorf("%s of %d: %q, %d, error %d", one.word, n, word, len(todo), e)
				}
			}
		}
	}
}

// noSeqs answers texts that the file seq can't have.
func noSeqs() []string {
	line := strings.Repeat("0a", 32) + "\n"
	whole := "pick\n" + line + line
	list := []string{
		"", "\n", "pick", "pick\n", "pick\n" + line, "merge\n" + line, "rebase\n" + line, line + line, line + line + line, "\n" + line + line,
		whole[:len(whole)-1], whole + "\n", "\n" + whole, whole + "x", whole + "pick\n", whole + "\x00", whole + line[:63] + "\n", whole + line[:64],
		"merge\n" + line + line + line,
		"pick\n" + line + strings.Repeat(line, 257), "rebase\n" + line + strings.Repeat(line, 257), "merge\n" + strings.Repeat(line, 257),
		"pick\n\n" + line, "pick\n" + line + "\n", "pick\n" + line + "\n" + line,
		"pick\n" + line + line[:63] + "\n", "pick\n" + line + line[:64] + "0\n", "pick\n" + line[:63] + "\n" + line, "pick\n" + line + line[:63] + "g\n",
		"pick\n" + line[:63] + "g\n" + line, "pick\n" + line + line[:63] + "A\n", "pick\n" + strings.ToUpper(line) + line, "pick\n" + line + line[:63] + " \n",
		"pick\n" + line[:64] + " " + line, "pick\n " + line[1:] + line, "pick\n" + line[:64] + "\r\n" + line, strings.ReplaceAll(whole, "\n", "\r\n"),
	}
	for _, word := range []string{"", "Pick", "PICK", "pick ", " pick", "picks", "pic", "stash", "pop", "abort", "continue", "cherry-pick", "merge\npick", "skip", "Merge", "reb", "rebase "} {
		list = append(list, word+"\n"+line+line)
	}
	return list
}

// P25.6: whatever else the file seq has is ErrForm, of each call.
func TestNoSeq(t *testing.T) {
	files, _, _, theirs := twoSides("a x", "a x|b y", "a x|c z")
	for _, text := range noSeqs() {
		wrong := having(files, "seq", text)
		if word, todo, e := seq.Todo(wrong); word != "" || len(todo) != 0 || e != api.ErrForm {
			t.Errorf("%.90q: Todo is %q, %d, error %d", text, word, len(todo), e)
		}
		for _, c := range commands(theirs) {
			wantError(t, fmt.Sprintf("%.90q", text), wrong, c, api.ErrForm)
		}
	}
}

// commands answers every command, with good arguments and with wrong ones.
func commands(id api.Id) []command {
	return []command{
		merge(id), mergeBy(nobody(), api.Id{1}), pick(id), pick(), pickBy(nobody(), some(257)...), rebase(id), rebaseBy(nobody(), api.Id{1}),
		goOn(), goOnBy(nobody()), skip(), skipBy(nobody()), abort(), abortBy(nobody()), stash(), stashBy(nobody()), pop(), popBy(nobody()),
	}
}

// The errors that every call has: no repository, ahead of whatever else is wrong.
func TestNoRepository(t *testing.T) {
	files, _, ours, theirs := twoSides("a x", "a x|b y", "a x|c z")
	busy := patched(files, map[string][]byte{"seq": seqText("pick", ours, theirs)})
	swapped := slices.Clone(files)
	swapped[0], swapped[1] = swapped[1], swapped[0]
	for what, wrong := range map[string][]api.File{
		"nothing":               nil,
		"no files":              {},
		"swapped":               swapped,
		"a file twice":          append(slices.Clone(files), files[len(files)-1]),
		"a path that is none":   append(slices.Clone(files), api.File{Path: "z//z"}),
		"a path of .git":        having(files, "work/.git", "x"),
		"no list of tables":     without(files, "reftable/tables.list"),
		"another list":          having(files, "reftable/tables.list", "x"),
		"no HEAD":               referring(files, api.Ref{Name: "HEAD"}),
		"HEAD with an Id":       referring(files, api.Ref{Name: "HEAD", Id: ours}),
		"no index":              without(files, "index"),
		"an index without form": having(files, "index", "DIRC"),
		"busy, and no index":    without(busy, "index"),
		"busy, and no HEAD":     referring(busy, api.Ref{Name: "HEAD"}),
	} {
		if word, todo, e := seq.Todo(wrong); word != "" || len(todo) != 0 || e != api.ErrForm {
			t.Errorf("%s: Todo is %q, %d, error %d", what, word, len(todo), e)
		}
		for _, c := range commands(theirs) {
			wantError(t, what, wrong, c, api.ErrForm)
		}
	}
}

// What is under way keeps others from beginning; where nothing is, nothing goes on. Both ahead of all else.
func TestBusy(t *testing.T) {
	files, _, ours, theirs := twoSides("a x", "a x|b y", "a x|c z")
	tipless := indexed(tipped(files, api.Id{9}), slots("1:a x"))
	for _, word := range []string{"merge", "pick", "rebase"} {
		busy := map[string][]byte{"seq": seqText(word, ours, theirs)}
		for _, in := range [][]api.File{files, tipless, referring(files, api.Ref{Name: mainName})} {
			for i, c := range commands(theirs) {
				if isGoing := i >= 7 && i <= 12; isGoing {
					wantError(t, "nothing under way", in, c, api.ErrBusy)
				} else {
					wantError(t, "busy", patched(in, busy), c, api.ErrBusy)
				}
			}
		}
	}
}
