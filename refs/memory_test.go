package refs_test

import (
	"bytes"
	"slices"
	"testing"
	"unsafe"

	"codicil/api"
	"codicil/refs"
	"codicil/txfile"
)

// crowded answers files whose bytes and whose list have spare room.
func crowded(files []api.File) []api.File {
	list := make([]api.File, 0, len(files)+2)
	for _, f := range files {
		p := append(bytes.Clone(f.Data), bytes.Repeat([]byte{0xa5}, 300)...)
		list = append(list, api.File{Path: string([]byte(f.Path)), Data: p[:len(f.Data)]})
	}
	list[:cap(list)][len(list)] = api.File{Path: "spare"}
	return list
}

// wantCrowded fails if files made by crowded were changed, or their spare room.
func wantCrowded(t *testing.T, what string, files, was []api.File) {
	t.Helper()
	if !sameFiles(files, was) || files[:cap(files)][len(files)].Path != "spare" {
		t.Errorf("%s changes the files", what)
	}
	for _, f := range files {
		if len(bytes.Trim(f.Data[len(f.Data):len(f.Data)+300], "\xa5")) != 0 {
			t.Errorf("%s changes spare room", what)
		}
	}
}

// sharing answers whether two texts share memory. Go keeps each text of one byte once, so those tell nothing.
func sharing(a, b string) bool {
	if len(a) < 2 || len(b) < 2 {
		return false
	}
	x, y := uintptr(unsafe.Pointer(unsafe.StringData(a))), uintptr(unsafe.Pointer(unsafe.StringData(b)))
	return x < y+uintptr(len(b)) && y < x+uintptr(len(a))
}

// wantApart fails if texts share memory with each other or with others.
func wantApart(t *testing.T, what string, list, others []string) {
	t.Helper()
	for i, a := range list {
		for _, b := range slices.Concat(list[i+1:], others) {
			if sharing(a, b) {
				t.Fatalf("%s: %q and %q share memory", what, a, b)
			}
		}
	}
}

// fileTexts answers the paths and the bytes of files as texts in their memory.
func fileTexts(files []api.File) []string {
	var list []string
	for _, f := range files {
		list = append(list, f.Path, unsafe.String(unsafe.SliceData(f.Data), len(f.Data)))
	}
	return list
}

// refTexts, noteTexts and changeTexts answer all texts of an answer.
func refTexts(list []api.Ref) []string {
	var all []string
	for _, r := range list {
		all = append(all, r.Name, r.Target)
	}
	return all
}

func noteTexts(list []api.Note) []string {
	var all []string
	for _, n := range list {
		all = append(all, n.Name, n.Who.Name, n.Who.Email, n.Message)
	}
	return all
}

func changeTexts(list []txfile.Change) []string {
	var all []string
	for _, c := range list {
		// Spare room counts, too.
		all = append(all, c.Path, unsafe.String(unsafe.SliceData(c.Data), cap(c.Data)))
	}
	return all
}

// longNotes answers a stack whose texts have more than one byte.
func longNotes() stack {
	s := three()
	for i := range s {
		for j := range s[i].notes {
			s[i].notes[j].Message = "a message"
		}
	}
	return s
}

// 'Memory': List, Get, Resolve and Notes change nothing, and answer new memory.
func TestReadMemory(t *testing.T) {
	s := longNotes()
	was := s.files()
	files := crowded(was)
	first, _ := refs.List(files)
	second, _ := refs.List(files)
	wantApart(t, "List", refTexts(first), append(refTexts(second), fileTexts(files)...))
	for i := range second[:cap(second)] {
		second[:cap(second)][i] = api.Ref{}
	}
	asked := string([]byte("refs/heads/c"))
	one, _ := refs.Get(files, asked)
	two, _ := refs.Get(files, asked)
	wantApart(t, "Get", []string{one.Name, two.Name}, append(fileTexts(files), asked))
	last, _, _ := refs.Resolve(files, asked)
	again, _, _ := refs.Resolve(files, asked)
	wantApart(t, "Resolve", []string{last, again}, append(fileTexts(files), asked))
	last, _, _ = refs.Resolve(files, "HEAD")
	again, _, _ = refs.Resolve(files, "HEAD")
	wantApart(t, "Resolve through a Target", []string{last, again}, fileTexts(files))
	head := string([]byte("HEAD"))
	notes, _ := refs.Notes(files, head)
	others, _ := refs.Notes(files, head)
	wantApart(t, "Notes", noteTexts(notes), slices.Concat(noteTexts(others), fileTexts(files), []string{head}))
	for i := range others[:cap(others)] {
		others[:cap(others)][i] = api.Note{}
	}
	wantCrowded(t, "a call that reads", files, was)
	for _, f := range files {
		clear(f.Data[:cap(f.Data)])
	}
	if !slices.Equal(first, s.refs()) || !slices.Equal(notes, s.notesOf("HEAD")) || one != at("refs/heads/c", 3) {
		t.Error("an answer shares memory")
	}
}

// 'Memory': Update and Drop change nothing, and answer new memory.
func TestChangeMemory(t *testing.T) {
	five := append(longNotes(), table{nil, nil, 10, 10}, table{nil, nil, 11, 11})
	for _, s := range []stack{nil, five[:1], five[:3], five} {
		was := s.files()
		files := crowded(was)
		edits := append(make([]refs.Edit, 0, 5), set(at("refs/heads/y", 1)), set(to("refs/heads/x", mainName)), set(at(mainName, 9)))
		edits[:4][3] = set(at("refs/spare/a", 1))
		kept := slices.Clone(edits[:4])
		who, message := me(4), "why it is"
		first, _ := refs.Update(files, edits, who, message)
		second, _ := refs.Update(files, edits, who, message)
		if !slices.Equal(edits[:4], kept) {
			t.Error("Update changes the edits")
		}
		dropped, _ := refs.Drop(files, 8)
		again, _ := refs.Drop(files, 8)
		wantCrowded(t, "Update or Drop", files, was)
		given := append(fileTexts(files), who.Name, who.Email, message, edits[0].Ref.Name, edits[1].Ref.Name, edits[1].Ref.Target)
		wantApart(t, "Update and Drop", slices.Concat(changeTexts(first), changeTexts(second), changeTexts(dropped), changeTexts(again)), given)
		for _, c := range slices.Concat(second, again) {
			clear(c.Data[:cap(c.Data)])
		}
		wantCrowded(t, "who writes over Update's answer", files, was)
		for i := range edits {
			edits[i] = refs.Edit{}
		}
		for _, f := range files {
			clear(f.Data[:cap(f.Data)])
		}
		if !sameChanges(first, s.changesTo(was, s.updated(kept[:3], who, message))) || !sameChanges(dropped, s.changesTo(was, s.dropped(8))) {
			t.Error("an answer shares memory")
		}
	}
}

// P2: what is asked again has the same answer, whatever was asked between; nil and empty lists are the same.
func TestAnsweredAgain(t *testing.T) {
	s := three()
	files := s.files()
	edits := []refs.Edit{set(at(mainName, 9))}
	first, _ := refs.Update(files, edits, me(1), "m")
	refs.Update(nil, edits, me(1), "m")
	refs.Drop(files, 100)
	refs.List(nil)
	if second, e := refs.Update(files, edits, me(1), "m"); e != api.OK || !sameChanges(first, second) {
		t.Error("Update answers another thing the second time")
	}
	wantStack(t, "again", files, s)
	one, _ := refs.Update(nil, edits, me(1), "m")
	two, _ := refs.Update([]api.File{}, edits, me(1), "m")
	if !sameChanges(one, two) {
		t.Error("an empty list of files is not as a nil one")
	}
}
