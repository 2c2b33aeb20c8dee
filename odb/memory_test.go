package odb_test

import (
	"bytes"
	"testing"
	"unsafe"

	"codicil/api"
	"codicil/odb"
	"codicil/txfile"
)

// crowded answers files whose bytes and whose list have spare room.
func crowded(files []api.File) []api.File {
	list := make([]api.File, 0, len(files)+2)
	for _, f := range files {
		list = append(list, api.File{Path: string([]byte(f.Path)), Data: roomy(f.Data)})
	}
	list[:cap(list)][len(list)] = file("spare", "")
	return list
}

// wantCrowded fails if files made by crowded were changed, or their spare room.
func wantCrowded(t *testing.T, what string, files, was []api.File) {
	t.Helper()
	if len(files) != len(was) || files[:cap(files)][len(files)].Path != "spare" {
		t.Errorf("%s changes the list", what)
	}
	for i, f := range files {
		if f.Path != was[i].Path {
			t.Errorf("%s changes a path", what)
		}
		wantRoomy(t, what, f.Data, was[i].Data)
	}
}

// within answers whether a text stands in another one's memory.
func within(part, whole string) bool {
	at, begin := uintptr(unsafe.Pointer(unsafe.StringData(part))), uintptr(unsafe.Pointer(unsafe.StringData(whole)))
	return part != "" && at >= begin && at < begin+uintptr(len(whole))
}

// sharing answers whether a path of changes or files stands in the memory of one of files.
func sharing(paths []string, files []api.File) bool {
	for _, path := range paths {
		for _, f := range files {
			if within(path, f.Path) {
				return true
			}
		}
	}
	return false
}

// mixedFiles answers files of objects with files of their own and in a pack.
func mixedFiles() []api.File {
	return join(own(blob("abcdefgh"), blob("one")), inPack("a", blob("ijklmnop"), blob("two")), []api.File{file("a", "xyz"), file("objects/x", "y")})
}

// 'Memory': Get and Ids change nothing, keep nothing, and answer new memory.
func TestGetMemory(t *testing.T) {
	was := mixedFiles()
	files := crowded(was)
	for _, text := range []string{"abcdefgh", "ijklmnop"} {
		first, _ := odb.Get(files, blobId(text))
		second, _ := odb.Get(files, blobId(text))
		scratch(second.Data)
		wantCrowded(t, "Get", files, was)
		wantObject(t, "again", files, blob(text))
		other := crowded(was)
		third, _ := odb.Get(other, blobId(text))
		for _, f := range other {
			scratch(f.Data)
		}
		if string(first.Data) != text || string(third.Data) != text {
			t.Error("Get's answer shares memory")
		}
	}
	first, _ := odb.Ids(files)
	second, _ := odb.Ids(files)
	for i := range second[:cap(second)] {
		second[:cap(second)][i] = api.Id{0x5a}
	}
	wantCrowded(t, "Ids", files, was)
	if len(first) != 4 || first[0] == (api.Id{0x5a}) {
		t.Error("Ids's answers share memory")
	}
	wantNoObject(t, "none", files, api.Id{1}, api.ErrNone)
	wantCrowded(t, "Get with an error", files, was)
}

// 'Memory': Put changes nothing, keeps nothing, and answers new memory.
func TestPutMemory(t *testing.T) {
	was := mixedFiles()
	files := crowded(was)
	texts := []string{"new", "one", "new", "newer", "newer still"}
	list := make([]api.Object, 0, 9)
	for _, text := range texts {
		list = append(list, api.Object{Kind: api.Blob, Data: roomy([]byte(text))})
	}
	first, ids, _ := odb.Put(files, list)
	second, _, _ := odb.Put(files, list)
	wantCrowded(t, "Put", files, was)
	for i, o := range list {
		wantRoomy(t, "Put", o.Data, []byte(texts[i]))
		scratch(o.Data)
	}
	if list[:6][5].Data != nil {
		t.Error("Put changes the list's spare room")
	}
	for _, c := range second {
		scratch(c.Data)
	}
	if !sameChanges(first, changes(own(blobs("new", "newer", "newer still")...)...)) || len(ids) != len(texts) {
		t.Error("Put's answer shares memory")
	}
	apart(t, first)
}

// apart fails if the bytes of one change, or their spare room, share memory with those of another.
func apart(t *testing.T, list []txfile.Change) {
	t.Helper()
	var was [][]byte
	for _, c := range list {
		was = append(was, bytes.Clone(c.Data))
	}
	for i, c := range list {
		scratch(c.Data)
		for j := i + 1; j < len(list); j++ {
			if !bytes.Equal(list[j].Data, was[j]) {
				t.Error("two parts of an answer share memory")
			}
		}
		copy(c.Data, was[i])
	}
	for i, c := range list {
		if !bytes.Equal(c.Data, was[i]) {
			t.Error("the spare room of a part of an answer is another one's memory")
		}
	}
}

// 'Memory': Repack changes nothing, keeps nothing, and answers new memory.
func TestRepackMemory(t *testing.T) {
	was := mixedFiles()
	files := crowded(was)
	keep := append(make([]api.Id, 0, 9), blobId("one"), blobId("two"), blobId("two"), blobId("ijklmnop"), api.Id{1})
	kept := bytes.Clone(idBytes(keep))
	keep[:6][5] = api.Id{0xa5}
	first, _ := odb.Repack(files, keep)
	second, _ := odb.Repack(files, keep)
	wantCrowded(t, "Repack", files, was)
	if !bytes.Equal(idBytes(keep), kept) || keep[:6][5] != (api.Id{0xa5}) {
		t.Error("Repack changes the ids")
	}
	for _, c := range second {
		scratch(c.Data)
	}
	wanted := byPaths(allGone(was[1:]...), changes(sealedPack(blobs("one", "two", "ijklmnop")...)...))
	var all []string
	for _, c := range first {
		all = append(all, c.Path)
	}
	if sharing(all, files) {
		t.Error("a change's path shares memory with a file's")
	}
	for _, f := range files {
		scratch(f.Data)
	}
	if !sameChanges(first, wanted) {
		t.Errorf("Repack's answer shares memory: %q", paths(first))
	}
	apart(t, first)
	// Where the pack stands already, its files are handed in: nothing of them is in the answer.
	stands := crowded(sealedPack(blobs("one")...))
	if list, e := odb.Repack(stands, []api.Id{blobId("one")}); len(list) != 0 || e != api.OK {
		t.Errorf("Repack of what stands: %d changes, error %d", len(list), e)
	}
	wantCrowded(t, "Repack of what stands", stands, sealedPack(blobs("one")...))
}

// idBytes answers the bytes of ids.
func idBytes(ids []api.Id) []byte {
	var p []byte
	for _, id := range ids {
		p = append(p, id[:]...)
	}
	return p
}

// 'Memory': Made changes nothing, keeps nothing, and answers new memory.
func TestMadeMemory(t *testing.T) {
	was := []api.File{file("a", "1"), file("b", "22"), file("c", "333")}
	files := crowded(was)
	list := append(make([]txfile.Change, 0, 9), txfile.Change{Path: string([]byte("d")), Data: roomy([]byte("4"))}, gone("b"), txfile.Change{Path: string([]byte("0")), Data: roomy([]byte("00"))})
	list[:4][3] = gone("spare")
	first, _ := odb.Made(files, list)
	second, _ := odb.Made(files, list)
	wantCrowded(t, "Made", files, was)
	if list[0].Path != "d" || list[1].Path != "b" || !list[1].Gone || list[2].Path != "0" || list[:4][3].Path != "spare" {
		t.Error("Made changes the list of changes")
	}
	wantRoomy(t, "Made", list[0].Data, []byte("4"))
	wantRoomy(t, "Made", list[2].Data, []byte("00"))
	for _, f := range second {
		scratch(f.Data)
	}
	wantCrowded(t, "who writes over Made's answer", files, was)
	wantRoomy(t, "who writes over Made's answer", list[0].Data, []byte("4"))
	scratch(list[0].Data)
	scratch(list[2].Data)
	for _, f := range files {
		scratch(f.Data)
	}
	wanted := []api.File{file("0", "00"), file("a", "1"), file("c", "333"), file("d", "4")}
	if !sameFiles(first, wanted) {
		t.Errorf("Made's answer shares memory: %q", first)
	}
	var all []string
	for _, f := range first {
		all = append(all, f.Path)
	}
	if sharing(all, append(files, api.File{Path: list[0].Path}, api.File{Path: list[2].Path})) {
		t.Error("a path of Made's answer shares memory with an argument's")
	}
	apart(t, changes(first...))
}
