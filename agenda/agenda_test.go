package agenda_test

import (
	"slices"
	"strings"
	"testing"

	"codicil/agenda"
	"codicil/api"
)

// with answers files of which one has the path seq.
func with(text string) []api.File {
	return []api.File{{Path: "index"}, {Path: "seq", Data: []byte(text)}, {Path: "work/a"}}
}

// What is told is read again, and what is read is told as it was.
func TestText(t *testing.T) {
	for _, word := range []string{agenda.Merge, agenda.Pick, agenda.Rebase} {
		for _, n := range []int{1, 2, api.MaxSteps} {
			a := agenda.Agenda{Word: word, Start: api.Id{1}, Todo: slices.Repeat([]api.Id{{2}}, n)}
			text := string(a.Text())
			got, is, e := agenda.Of(with(text))
			if word == agenda.Merge && n > 1 {
				if is || e != api.ErrForm {
					t.Errorf("%s of %d: %v, error %d", word, n, is, e)
				}
				continue
			}
			if !is || e != api.OK || got.Word != word || got.Start != a.Start || !slices.Equal(got.Todo, a.Todo) || string(got.Text()) != text {
				t.Errorf("%s of %d: %v, %v, error %d", word, n, got, is, e)
			}
		}
	}
}

// The text as the chapter has it; no file; and texts that are none.
func TestOf(t *testing.T) {
	line := func(digit string) string { return strings.Repeat(digit, 64) + "\n" }
	got, is, e := agenda.Of(with("rebase\n" + line("0") + line("a") + line("9")))
	if !is || e != api.OK || got.Word != "rebase" || got.Start != (api.Id{}) || len(got.Todo) != 2 || got.Todo[0][31] != 0xaa || got.Todo[1][0] != 0x99 {
		t.Errorf("%v, %v, error %d", got, is, e)
	}
	for _, files := range [][]api.File{nil, {{Path: "sep"}, {Path: "seq/x"}, {Path: "seqs"}}} {
		if got, is, e := agenda.Of(files); is || e != api.OK || got.Word != "" || len(got.Todo) != 0 {
			t.Errorf("no file: %v, %v, error %d", got, is, e)
		}
	}
	for _, text := range []string{"", "pick\n", "pick\n" + line("0"), "pick\n" + line("0") + line("1")[:64], "stash\n" + line("0") + line("1"), "pick\n" + line("0") + strings.Repeat(line("1"), api.MaxSteps+1)} {
		if got, is, e := agenda.Of(with(text)); is || e != api.ErrForm || got.Word != "" || len(got.Todo) != 0 {
			t.Errorf("%.80q: %v, %v, error %d", text, got, is, e)
		}
	}
}
