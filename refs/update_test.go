package refs_test

import (
	"fmt"
	"slices"
	"testing"

	"codicil/api"
	"codicil/refs"
)

// P16.1, P16.2: the chapter's example.
func TestExample(t *testing.T) {
	list, e := refs.List(nil)
	if len(list) != 0 || e != api.OK {
		t.Errorf("List: %v, error %d", list, e)
	}
	changes, e := refs.Update(nil, []refs.Edit{{Ref: to("HEAD", mainName)}}, me(1), "init")
	if len(changes) != 2 || e != api.OK || changes[0].Path != "reftable/000000000001-000000000001.ref" || changes[1].Path != listPath || string(changes[1].Data) != "000000000001-000000000001.ref\n" {
		t.Fatalf("Update: %q, error %d", told(changes), e)
	}
	files := made(t, nil, changes)
	changes, e = refs.Update(files, []refs.Edit{{Ref: at(mainName, 7)}}, me(2), "commit: one")
	if e != api.OK {
		t.Fatalf("Update: error %d", e)
	}
	files = made(t, files, changes)
	wantResolved(t, "the example", files, "HEAD", mainName, api.Id{7})
	for _, name := range []string{mainName, "HEAD"} {
		notes, e := refs.Notes(files, name)
		if wanted := (api.Note{Name: name, Index: 2, New: api.Id{7}, Who: me(2), Message: "commit: one"}); e != api.OK || len(notes) != 1 || notes[0] != wanted {
			t.Errorf("Notes(%s): %v, error %d", name, notes, e)
		}
	}
}

// P16.2: edits of each kind, and which notes they leave.
func TestUpdate(t *testing.T) {
	base := three()
	for what, edits := range map[string][]refs.Edit{
		"a new one":                            {set(at("refs/heads/x", 1))},
		"a new one, expected not to be":        {expecting(at("refs/heads/x", 1), 0)},
		"another Id, expected":                 {expecting(at("refs/heads/c", 9), 3)},
		"another Id, whatever was":             {set(at("refs/heads/c", 9))},
		"the same Id":                          {set(at("refs/heads/c", 3))},
		"the same Id, expected":                {expecting(at("refs/heads/c", 3), 3)},
		"the same Id of HEAD's branch":         {set(at(mainName, 5))},
		"HEAD's branch":                        {expecting(at(mainName, 9), 5)},
		"HEAD's branch goes":                   {expecting(gone(mainName), 5)},
		"HEAD's branch has a Target":           {set(to(mainName, "refs/heads/c"))},
		"HEAD's branch and HEAD":               {set(at(mainName, 9)), set(to("HEAD", mainName))},
		"HEAD and then its branch":             {set(to("HEAD", "refs/heads/c")), set(at(mainName, 9))},
		"HEAD's branch and HEAD with an Id":    {set(at(mainName, 9)), set(at("HEAD", 9))},
		"HEAD goes, with its branch":           {set(gone("HEAD")), set(gone(mainName))},
		"HEAD to another branch that is there": {set(to("HEAD", "refs/heads/c")), set(at("refs/heads/c", 4))},
		"HEAD has an Id":                       {expecting(at("HEAD", 9), 0)},
		"HEAD has the Target again":            {expecting(to("HEAD", mainName), 0)},
		"one goes":                             {expecting(gone("refs/heads/c"), 3)},
		"one that is gone goes":                {expecting(gone("refs/heads/a"), 0)},
		"one that never was goes":              {set(gone("refs/heads/x"))},
		"one that is gone comes back":          {expecting(at("refs/heads/a", 1), 0)},
		"an Id becomes a Target":               {expecting(to("refs/heads/c", "refs/heads/d"), 3)},
		"a Target of one that isn't there":     {set(to("refs/heads/x", "refs/heads/y"))},
		"a Target of itself":                   {set(to("refs/heads/x", "refs/heads/x"))},
		"many, not by names":                   {set(at("refs/heads/z", 1)), set(gone("refs/heads/c")), set(at(mainName, 8)), set(to("refs/heads/k", "HEAD")), expecting(at("refs/heads/d", 6), 6)},
	} {
		for _, count := range []int{3, 2, 1} {
			s := base[:count]
			if count == 3 || slices.IndexFunc(edits, func(e refs.Edit) bool { return !e.Any }) < 0 {
				wantUpdated(t, what, s, s.files(), me(3), "why", edits...)
			}
		}
	}
}

// P16.2: HEAD's log goes with the branch that it had ahead of the edits, and with none where it has none.
func TestHeadNotes(t *testing.T) {
	for what, x := range map[string]struct {
		head  []api.Ref
		edits []refs.Edit
		count int
	}{
		"no HEAD":               {nil, []refs.Edit{set(at(mainName, 2))}, 0},
		"HEAD with an Id":       {[]api.Ref{at("HEAD", 1)}, []refs.Edit{set(at(mainName, 2))}, 0},
		"HEAD elsewhere":        {[]api.Ref{to("HEAD", "refs/heads/x")}, []refs.Edit{set(at(mainName, 2))}, 0},
		"HEAD to HEAD":          {[]api.Ref{to("HEAD", "HEAD")}, []refs.Edit{set(at(mainName, 2))}, 0},
		"HEAD to HEAD, edited":  {[]api.Ref{to("HEAD", "HEAD")}, []refs.Edit{set(at("HEAD", 2))}, 1},
		"HEAD there":            {[]api.Ref{to("HEAD", mainName)}, []refs.Edit{set(at(mainName, 2))}, 1},
		"HEAD there, not alone": {[]api.Ref{to("HEAD", mainName)}, []refs.Edit{set(at("refs/heads/a", 2)), set(at(mainName, 2)), set(at("refs/z/z", 2))}, 1},
		"HEAD comes":            {nil, []refs.Edit{set(to("HEAD", mainName)), set(at(mainName, 2))}, 0},
		"HEAD leaves":           {[]api.Ref{to("HEAD", mainName)}, []refs.Edit{set(to("HEAD", "refs/heads/x")), set(at(mainName, 2))}, 0},
		"HEAD by way of others": {[]api.Ref{to("HEAD", "refs/heads/x"), to("refs/heads/x", mainName)}, []refs.Edit{set(at(mainName, 2))}, 0},
		"HEAD's Id":             {[]api.Ref{at("HEAD", 1)}, []refs.Edit{set(at("HEAD", 2))}, 1},
		"HEAD's Id, the same":   {[]api.Ref{at("HEAD", 1)}, []refs.Edit{set(at("HEAD", 1))}, 0},
		"HEAD's Id goes":        {[]api.Ref{at("HEAD", 1)}, []refs.Edit{set(gone("HEAD"))}, 1},
		"HEAD's Target goes":    {[]api.Ref{to("HEAD", mainName)}, []refs.Edit{set(gone("HEAD"))}, 0},
	} {
		s := stack{{x.head, nil, 1, 1}}
		_, files := wantUpdated(t, what, s, s.files(), me(3), "why", x.edits...)
		if notes, _ := refs.Notes(files, "HEAD"); len(notes) != x.count {
			t.Errorf("%s: %d notes of HEAD, wanted %d", what, len(notes), x.count)
		}
	}
}

// P16.2, P16.4: one update behind the other; the sixth table of five becomes one of all.
func TestSixthTable(t *testing.T) {
	var s stack
	files := []api.File{{Path: "a", Data: []byte("x")}, {Path: "z"}}
	counts := ""
	for i := range 23 {
		edits := []refs.Edit{set(at(mainName, byte(i+1))), set(at(fmt.Sprintf("refs/heads/%02d", i), 1))}
		if i == 0 {
			edits = append(edits, set(to("HEAD", mainName)))
		}
		if i%3 == 2 {
			edits = append(edits, set(gone(fmt.Sprintf("refs/heads/%02d", i-1))))
		}
		s, files = wantUpdated(t, fmt.Sprintf("update %d", i), s, files, me(i), fmt.Sprint("update ", i), edits...)
		counts += fmt.Sprint(len(s))
		if len(files) != len(s)+3 {
			t.Fatalf("update %d: %d files of %d tables", i, len(files), len(s))
		}
	}
	// One table of six has room for four more behind it.
	if counts != "12345"+"12345"+"12345"+"12345"+"123" {
		t.Errorf("tables behind each update: %s", counts)
	}
	if notes, _ := refs.Notes(files, mainName); len(notes) != 23 {
		t.Errorf("%d notes", len(notes))
	}
}

// P16.2: in one table of all there is no record of a reference that is gone, and what goes by the same update isn't there either.
func TestMergedWithoutGone(t *testing.T) {
	s := stack{{[]api.Ref{at("refs/heads/a", 1), at("refs/heads/b", 1)}, nil, 1, 1}, {[]api.Ref{gone("refs/heads/a")}, nil, 2, 2}, {nil, nil, 3, 3}, {nil, nil, 4, 4}, {[]api.Ref{gone("refs/heads/c")}, nil, 5, 7}}
	behind, files := wantUpdated(t, "one table", s, s.files(), me(1), "m", set(gone("refs/heads/b")), set(gone("refs/heads/x")))
	if len(behind) != 1 || len(behind[0].refs) != 0 || len(files) != 2 || files[0].Path != "reftable/000000000001-000000000008.ref" {
		t.Errorf("%d tables, %d files", len(behind), len(files))
	}
	// More tables than an update leaves are made one, too.
	for _, n := range []int{6, 7, 12} {
		var more stack
		for i := range n {
			more = append(more, table{[]api.Ref{at(fmt.Sprintf("refs/heads/%02d", i), 1)}, nil, i + 1, i + 1})
		}
		wantUpdated(t, "many tables", more, more.files(), me(1), "m", set(at(mainName, 1)))
		wantDropped(t, "many tables", more, more.files(), 0)
	}
}

// P16.2: 64 edits.
func TestMostEdits(t *testing.T) {
	edits := []refs.Edit{set(at(mainName, 1))}
	for i := range 63 {
		edits = append(edits, set(at(fmt.Sprintf("refs/%c/%s%02d", 'a'+i%26, letters(180), i), byte(i))))
	}
	s := stack{{[]api.Ref{to("HEAD", mainName)}, nil, 1, 1}}
	wantUpdated(t, "64 edits", s, s.files(), api.Ident{Name: letters(100), Email: letters(100), Time: 1 << 40, Zone: -1439}, letters(1000), edits...)
	slices.Reverse(edits)
	wantUpdated(t, "64 edits in another order", s, s.files(), me(1), "", edits...)
	wantRefused(t, "65 edits", s.files(), append(edits, set(at("refs/heads/more", 1))), me(1), "m", api.ErrLong)
}

// P16.2: a file that stands already with the same bytes is no change; one with other bytes is.
func TestStandsAlready(t *testing.T) {
	s := three()
	edits := []refs.Edit{set(at("refs/heads/new", 1))}
	fourth := s.updated(edits, me(1), "m")[3].file()
	for what, data := range map[string][]byte{"the same bytes": fourth.Data, "other bytes": []byte("x"), "no bytes": nil} {
		files := byPaths(s.files(), []api.File{{Path: fourth.Path, Data: data}})
		_, behind := wantUpdated(t, what, s, files, me(1), "m", edits...)
		if len(behind) != 5 {
			t.Errorf("%s: %d files", what, len(behind))
		}
	}
	files := byPaths(s.files(), []api.File{fourth})
	if list, _ := refs.Update(files, edits, me(1), "m"); len(list) != 1 || list[0].Path != listPath {
		t.Errorf("Update where the table stands: %q", told(list))
	}
	// The same where all become one.
	five := stack{s[0], s[1], s[2], {nil, nil, 10, 10}, {nil, nil, 11, 11}}
	one := five.updated(edits, me(1), "m")[0].file()
	files = byPaths(five.files(), []api.File{one})
	list, e := refs.Update(files, edits, me(1), "m")
	if len(list) != 6 || e != api.OK || !list[0].Gone || list[5].Path != listPath {
		t.Errorf("Update where the one table stands: %q, error %d", told(list), e)
	}
	wantUpdated(t, "the one table stands", five, files, me(1), "m", edits...)
}

// P16.2: numbers above 10^12, up to 2^40.
func TestUpdateGreatNumbers(t *testing.T) {
	for _, n := range []int{999999999998, 999999999999, 1000000000000, 1<<40 - 1} {
		s := stack{{[]api.Ref{to("HEAD", mainName)}, nil, 1, n}}
		wantUpdated(t, "a great number", s, s.files(), me(1), "m", set(at(mainName, 1)))
		wantDropped(t, "a great number", s, s.files(), 0)
		five := stack{{[]api.Ref{to("HEAD", mainName)}, nil, 1, n - 4}, {nil, nil, n - 3, n - 3}, {nil, nil, n - 2, n - 2}, {nil, nil, n - 1, n - 1}, {nil, nil, n, n}}
		wantUpdated(t, "a great number, one table of six", five, five.files(), me(1), "m", set(at(mainName, 1)))
	}
	s := stack{{[]api.Ref{to("HEAD", mainName)}, nil, 1, 1 << 40}}
	wantRefused(t, "a number above 2^40", s.files(), []refs.Edit{set(at(mainName, 1))}, me(1), "m", api.ErrLimit)
	wantDropped(t, "2^40", s, s.files(), 0)
}
