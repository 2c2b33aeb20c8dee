package refs_test

import (
	"bytes"
	"fmt"
	"strings"
	"testing"

	"codicil/api"
	"codicil/refs"
	"codicil/reftable"
)

// three answers a stack of three tables: what an elder one says a newer one may say otherwise.
func three() stack {
	return stack{
		{[]api.Ref{to("HEAD", mainName), at("refs/heads/a", 1), at("refs/heads/b", 2), at("refs/heads/c", 3)}, []api.Note{note("HEAD", 3, 1, 2, 10), note("HEAD", 1, 0, 1, 9), note("refs/heads/a", 2, 0, 1, 8)}, 1, 3},
		{[]api.Ref{gone("refs/heads/a"), at("refs/heads/b", 4), at(mainName, 5)}, []api.Note{note("HEAD", 4, 2, 5, 7), note(mainName, 4, 0, 5, 7)}, 4, 4},
		{[]api.Ref{gone("refs/heads/b"), at("refs/heads/d", 6), gone("refs/heads/e")}, []api.Note{note("refs/heads/a", 9, 1, 0, 6), note("refs/heads/b", 8, 4, 0, 6), note("refs/heads/d", 5, 0, 6, 6)}, 5, 9},
	}
}

// P16.1: the newest record counts; one that says that a reference is gone, too.
func TestNewestCounts(t *testing.T) {
	s := three()
	for n := range 4 {
		wantStack(t, "tables by hand", s[:n].files(), s[:n])
	}
	files := s.files()
	list, _ := refs.List(files)
	wanted := fmt.Sprint([]api.Ref{to("HEAD", mainName), at("refs/heads/c", 3), at("refs/heads/d", 6), at(mainName, 5)})
	if fmt.Sprint(list) != wanted {
		t.Errorf("List: %v, wanted %s", list, wanted)
	}
	notes, _ := refs.Notes(files, "HEAD")
	if len(notes) != 3 || notes[0].Index != 4 || notes[1].Index != 3 || notes[2].Index != 1 {
		t.Errorf("Notes(HEAD): %v", notes)
	}
	// The notes of a reference that is gone stay.
	if notes, _ = refs.Notes(files, "refs/heads/a"); len(notes) != 2 || notes[0].Index != 9 {
		t.Errorf("Notes(refs/heads/a): %v", notes)
	}
	back := append(s, table{[]api.Ref{at("refs/heads/a", 7), to("refs/heads/b", "HEAD")}, nil, 10, 10})
	wantStack(t, "references that come back", back.files(), back)
}

// P16.1: no file, an empty list, and other files.
func TestWithoutTables(t *testing.T) {
	others := []api.File{{Path: "a"}, {Path: "objects/x", Data: []byte("y")}, {Path: "reftable"}, {Path: "reftable/" + three()[1].name(), Data: []byte("not named")}, {Path: "tables.list", Data: []byte("x")}, {Path: "z"}}
	for what, files := range map[string][]api.File{"nil": nil, "no files": {}, "others": others, "an empty list": {{Path: listPath}}, "an empty list and others": byPaths(others, []api.File{{Path: listPath, Data: []byte{}}})} {
		wantStack(t, what, files, nil)
		for _, name := range []string{"HEAD", mainName, "", "x"} {
			wantUnresolved(t, what, files, name, api.ErrNone)
		}
		wantDropped(t, what, nil, files, 1<<40)
	}
	wantUpdated(t, "an empty list", nil, []api.File{{Path: listPath}}, me(1), "m", set(at(mainName, 1)))
	s := three()
	files := byPaths(s.files(), []api.File{{Path: "reftable/x"}, {Path: "reftable/000000000010-000000000010.ref", Data: []byte("not named")}, {Path: "a"}, {Path: "z"}})
	wantStack(t, "files that the list doesn't name", files, s)
}

// P16.1: through Targets.
func TestResolve(t *testing.T) {
	chain := func(n int, last api.Ref) stack {
		var list []api.Ref
		for i := range n {
			list = append(list, to(fmt.Sprintf("refs/heads/%d", i), fmt.Sprintf("refs/heads/%d", i+1)))
		}
		last.Name = fmt.Sprintf("refs/heads/%d", n)
		return stack{{append(list, last), nil, 1, 1}}
	}
	for n := range 6 {
		wantResolved(t, "a chain", chain(n, at("", 7)).files(), "refs/heads/0", fmt.Sprintf("refs/heads/%d", n), api.Id{7})
		wantUnresolved(t, "a chain to one that is gone", chain(n, gone("")).files(), "refs/heads/0", api.ErrNone)
	}
	for n := 6; n < 9; n++ {
		files := chain(n, at("", 7)).files()
		wantUnresolved(t, "a long chain", files, "refs/heads/0", api.ErrLimit)
		wantUnresolved(t, "a long chain to one that is gone", chain(n, gone("")).files(), "refs/heads/0", api.ErrLimit)
		wantResolved(t, "the end of a long chain", files, fmt.Sprintf("refs/heads/%d", n-5), fmt.Sprintf("refs/heads/%d", n), api.Id{7})
	}
	round := stack{{[]api.Ref{to("HEAD", "HEAD"), to("refs/heads/a", "refs/heads/b"), to("refs/heads/b", "refs/heads/a"), to("refs/heads/c", "refs/heads/b"), to("refs/heads/d", "refs/none/none")}, nil, 1, 1}}.files()
	for _, name := range []string{"HEAD", "refs/heads/a", "refs/heads/b", "refs/heads/c"} {
		wantUnresolved(t, "round in a circle", round, name, api.ErrLimit)
	}
	for _, name := range []string{"refs/heads/d", "refs/none/none", "", "heads/a", "refs/heads/"} {
		wantUnresolved(t, "one that isn't there", round, name, api.ErrNone)
	}
	wantResolved(t, "through two tables", three().files(), "HEAD", mainName, api.Id{5})
	wantResolved(t, "a reference itself", three().files(), "refs/heads/c", "refs/heads/c", api.Id{3})
	wantUnresolved(t, "one that is gone", three().files(), "refs/heads/a", api.ErrNone)
}

// P16.1: files that are not in order.
func TestFilesOutOfOrder(t *testing.T) {
	s := three()
	good := s.files()
	before, behind := api.File{Path: "a"}, api.File{Path: "z"}
	for what, files := range map[string][]api.File{
		"files that fall":           append([]api.File{behind}, good...),
		"files that fall behind":    append(append([]api.File{}, good...), before),
		"one path twice":            append(append([]api.File{}, good...), good[len(good)-1]),
		"one other path twice":      append(append([]api.File{}, good...), behind, behind),
		"an empty path":             append([]api.File{{}}, good...),
		"a path with an empty part": append(append([]api.File{}, good...), api.File{Path: "x//y"}),
		"a path with ..":            append(append([]api.File{}, good...), api.File{Path: "x/../y"}),
		"a path with .git":          append([]api.File{{Path: ".Git/x"}}, good...),
		"a long path":               append(append([]api.File{}, good...), api.File{Path: strings.Repeat("x/", 100) + "x"}),
		"no table, one path twice":  {before, before},
		"no table, an empty path":   {{}},
	} {
		wantNoStack(t, what, files)
	}
}

// P16.1: lists that are not as they should be.
func TestListOutOfForm(t *testing.T) {
	s := three()
	var names [3]string
	for i, x := range s {
		names[i] = x.name()
	}
	all := names[0] + "\n" + names[1] + "\n" + names[2] + "\n"
	for what, text := range map[string]string{
		"no last line feed":           all[:len(all)-1],
		"one line feed more":          all + "\n",
		"a line feed in front":        "\n" + all,
		"a line feed alone":           "\n",
		"an empty line":               names[0] + "\n\n" + names[1] + "\n",
		"one table without line feed": names[0],
		"a table that isn't there":    all + "000000000010-000000000010.ref\n",
		"the first is left out":       names[1] + "\n" + names[2] + "\n",
		"the middle is left out":      names[0] + "\n" + names[2] + "\n",
		"a table twice":               names[0] + "\n" + names[0] + "\n",
		"the last twice":              all + names[2] + "\n",
		"the newest first":            names[2] + "\n" + names[1] + "\n" + names[0] + "\n",
		"paths, not names":            "reftable/" + names[0] + "\n",
		"a carriage return":           names[0] + "\r\n",
		"a blank":                     names[0] + " \n",
		"a blank in front":            " " + names[0] + "\n",
		"without .ref":                strings.TrimSuffix(names[0], ".ref") + "\n",
		"another folder":              "../reftable/" + names[0] + "\n",
		"itself":                      "tables.list\n",
		"a byte 0":                    names[0] + "\n\x00",
		"a byte 0 alone":              "\x00",
	} {
		files := s.files()
		files[len(files)-1].Data = []byte(text)
		wantNoStack(t, what, files)
	}
	for n := range 4 {
		files := s.files()
		files[3].Data = s[:n].list().Data
		wantStack(t, "the front of the list", files, s[:n])
	}
}

// P16.1: tables that are not as they should be, at each place of the list.
func TestTableOutOfForm(t *testing.T) {
	for i := range three() {
		s := three()
		good := s[i].file()
		turned := bytes.Clone(good.Data)
		turned[len(turned)-1] ^= 1
		least, _ := reftable.Write(s[i].refs, nil, s[i].min+1, s[i].max+1)
		most, _ := reftable.Write(s[i].refs, nil, s[i].min, s[i].max+1)
		for what, data := range map[string][]byte{
			"no bytes": nil, "a byte turned": turned, "a byte less": good.Data[:len(good.Data)-1], "a byte more": append(bytes.Clone(good.Data), 0),
			"another min and max": least, "another max": most, "more than MaxData bytes": make([]byte, api.MaxData+1), "another table": s[(i+1)%3].file().Data,
		} {
			files := s.files()
			files[i].Data = data
			wantNoStack(t, what, files)
		}
		missing := append(append([]api.File{}, s.files()[:i]...), s.files()[i+1:]...)
		wantNoStack(t, "a table isn't there", missing)
	}
	// Names that say other numbers than their tables, or say them in another way.
	x := table{[]api.Ref{at(mainName, 1)}, nil, 1, 2}
	for _, name := range []string{"000000000001-000000000001.ref", "000000000001-000000000003.ref", "1-2.ref", "0000000000001-0000000000002.ref", "00000000001-00000000002.ref", "000000000001-000000000002.REF", "000000000001-000000000002", "000000000001_000000000002.ref", "000000000001-000000000002.ref.ref", "+00000000001-000000000002.ref", "x"} {
		files := []api.File{{Path: "reftable/" + name, Data: x.file().Data}, {Path: listPath, Data: []byte(name + "\n")}}
		wantNoStack(t, name, files)
	}
	wantStack(t, "the right name", stack{x}.files(), stack{x})
	for what, s := range map[string]stack{
		"a first min of 2": {{nil, nil, 2, 2}},
		"a gap":            {{nil, nil, 1, 1}, {nil, nil, 3, 3}},
		"an overlap":       {{nil, nil, 1, 2}, {nil, nil, 2, 3}},
		"all again":        {{nil, nil, 1, 2}, {nil, nil, 1, 3}},
	} {
		wantNoStack(t, what, s.files())
	}
}

// P16.1: numbers up to 2^40. Above twelve digits a name has thirteen.
func TestGreatNumbers(t *testing.T) {
	for _, n := range []int{1, 9, 10, 999999999999, 1000000000000, 1 << 40} {
		s := stack{{[]api.Ref{at(mainName, 1)}, []api.Note{note(mainName, n, 0, 1, 1)}, 1, n}}
		wantStack(t, "a great number", s.files(), s)
		if n > 1 {
			s = stack{{nil, nil, 1, n - 1}, {[]api.Ref{at(mainName, 1)}, nil, n, n}}
			wantStack(t, "two tables, a great number", s.files(), s)
		}
	}
}
