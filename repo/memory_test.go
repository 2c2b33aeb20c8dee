package repo_test

import (
	"bytes"
	"slices"
	"strings"
	"testing"
	"unsafe"

	"codicil/api"
	"codicil/repo"
)

// crowded answers files with spare room in their list and in their bytes, whose paths are memory of their own.
func crowded(was []api.File) []api.File {
	files := make([]api.File, 0, len(was)+1)
	for _, f := range was {
		p := append(bytes.Clone(f.Data), bytes.Repeat([]byte{0xa5}, 200)...)
		files = append(files, api.File{Path: strings.Clone(f.Path), Data: p[:len(f.Data):len(p)]})
	}
	files[:len(files)+1][len(files)].Path = "spare"
	return files
}

// wantCrowded fails if files made by crowded were changed, or their spare room.
func wantCrowded(t *testing.T, what string, files, was []api.File) {
	t.Helper()
	if !sameFiles(files, was) || files[:len(files)+1][len(files)].Path != "spare" {
		t.Fatalf("%s changes the files", what)
	}
	for _, f := range files {
		if len(bytes.Trim(f.Data[len(f.Data):cap(f.Data)], "\xa5")) != 0 {
			t.Fatalf("%s changes spare room", what)
		}
	}
}

// piece is memory from one address to another.
type piece struct{ from, to uintptr }

func bytesPiece(p []byte) piece {
	from := uintptr(unsafe.Pointer(unsafe.SliceData(p)))
	return piece{from, from + uintptr(cap(p))}
}

// textPiece answers the memory of a text. Go keeps each text of one byte once: those tell nothing.
func textPiece(s string) piece {
	if len(s) < 2 {
		return piece{}
	}
	from := uintptr(unsafe.Pointer(unsafe.StringData(s)))
	return piece{from, from + uintptr(len(s))}
}

// filePieces, slotPieces and statePieces answer the memory that lists point to.
func filePieces(l []api.File) []piece {
	var list []piece
	for _, f := range l {
		list = append(list, textPiece(f.Path), bytesPiece(f.Data))
	}
	return list
}

func slotPieces(l []api.Slot) []piece {
	var list []piece
	for _, s := range l {
		list = append(list, textPiece(s.Path))
	}
	return list
}

func statePieces(l []repo.State) []piece {
	var list []piece
	for _, s := range l {
		list = append(list, textPiece(s.Path))
	}
	return list
}

// wantApart fails if pieces of memory share some with each other or with others.
func wantApart(t *testing.T, what string, list, others []piece) {
	t.Helper()
	for i, a := range list {
		for _, b := range slices.Concat(list[i+1:], others) {
			if a.from < b.to && b.from < a.to {
				t.Fatalf("%s: an answer shares memory", what)
			}
		}
	}
}

// scratch writes over files' bytes, their spare room, and their list.
func scratch(files []api.File) {
	for _, f := range files {
		p := f.Data[:cap(f.Data)]
		copy(p, bytes.Repeat([]byte{0x5a}, len(p)))
	}
	clear(files[:cap(files)])
}

// rich answers a repository in which each command has much to do; and two commits, that of main and that of b.
func rich(t *testing.T) ([]api.File, api.Id, api.Id) {
	t.Helper()
	files, one := at(t, "aa x", "bb/cc yy", "dd zzz")
	files, two := branching(files, "b", "aa new", "dd zzz", "ee more")
	return working(files, "dd changed", "ff unknown"), one, two
}

// 'Memory': commands that change files change nothing of what they are handed, keep nothing, and answer new memory.
func TestMemory(t *testing.T) {
	was, one, two := rich(t)
	changedIndex := indexed(was, slots("aa x", "bb/cc other"))
	for _, c := range []command{
		write("nn", "new"), write("aa", "new"), erase("aa"), erase("ff"), add("dd", 4), add("ff", 4), branch("nn", two), switchTo("b"),
		reset(0, two), reset(1, two), reset(2, two), reset(2, one), commit("mm\nmore"),
	} {
		from := was
		if strings.HasPrefix(c.what, "Commit") {
			from = changedIndex
		}
		files := crowded(from)
		wanted, _, _ := c.plain(from)
		first, _, e := c.run(files)
		second, _, _ := c.run(files)
		if e != api.OK {
			t.Fatalf("%s: error %d", c.what, e)
		}
		wantCrowded(t, c.what, files, from)
		wantApart(t, c.what, slices.Concat(filePieces(first), filePieces(second)), filePieces(files))
		scratch(second)
		wantCrowded(t, "who writes over an answer of "+c.what, files, from)
		scratch(files)
		if !sameFiles(first, wanted) {
			t.Errorf("%s: the answer changes with others", c.what)
		}
	}
}

// 'Memory': Write neither changes nor keeps the bytes that it is handed, nor their spare room, nor the path.
func TestWriteMemory(t *testing.T) {
	files := begun(t)
	data := append([]byte("bytes"), 0xa5, 0xa5)[:5]
	path := strings.Clone("a/path")
	made, _ := repo.Write(files, path, data)
	again, _ := repo.Write(files, path, data)
	if !bytes.Equal(data[:7], []byte("bytes\xa5\xa5")) {
		t.Error("Write changes its bytes")
	}
	wantApart(t, "Write", slices.Concat(filePieces(made), filePieces(again)), append(filePieces(files), bytesPiece(data), textPiece(path)))
	clear(data[:cap(data)])
	wantWork(t, "Write", made, "a/path bytes")
	// What one call answers can be handed in to the next one, and its bytes, too.
	l, _ := repo.Work(made)
	twice, _ := repo.Write(made, "second", l[0].Data)
	wantApart(t, "Write of Work's", filePieces(twice), slices.Concat(filePieces(made), filePieces(l)))
	wantWork(t, "twice", twice, "a/path bytes", "second bytes")
}

// 'Memory': Head, Index, Work and Status.
func TestReadMemory(t *testing.T) {
	was, _, _ := rich(t)
	files := crowded(was)
	name, _, _ := repo.Head(files)
	nameAgain, _, _ := repo.Head(files)
	index, _ := repo.Index(files)
	indexAgain, _ := repo.Index(files)
	work, _ := repo.Work(files)
	workAgain, _ := repo.Work(files)
	status, _ := repo.Status(files)
	statusAgain, _ := repo.Status(files)
	wantCrowded(t, "a call that reads", files, was)
	wantApart(t, "a call that reads", slices.Concat([]piece{textPiece(name), textPiece(nameAgain)}, slotPieces(index), slotPieces(indexAgain),
		filePieces(work), filePieces(workAgain), statePieces(status), statePieces(statusAgain)), filePieces(files))
	scratch(workAgain)
	clear(indexAgain[:cap(indexAgain)])
	clear(statusAgain[:cap(statusAgain)])
	wantCrowded(t, "who writes over an answer", files, was)
	scratch(files)
	v, _ := viewOf(was)
	wantedStatus, _ := plainStatus(was)
	if name != v.branch || !slices.Equal(index, v.slots) || !slices.Equal(status, wantedStatus) || len(work) != len(v.work) {
		t.Error("an answer changes with others")
	}
	for _, f := range work {
		if !bytes.Equal(f.Data, v.work[f.Path]) {
			t.Errorf("the file %s changes with others", f.Path)
		}
	}
}

// 'Memory': Init answers new memory each time.
func TestInitMemory(t *testing.T) {
	one, _ := repo.Init(me(1))
	two, _ := repo.Init(me(1))
	wantApart(t, "Init", slices.Concat(filePieces(one), filePieces(two)), nil)
	scratch(two)
	three, _ := repo.Init(me(1))
	if !sameFiles(one, three) {
		t.Error("Init answers another thing behind who wrote over its answer")
	}
}

// P2: what is asked again has the same answer, whatever was asked between.
func TestAnsweredAgain(t *testing.T) {
	files, one, two := rich(t)
	for range 10 {
		for _, c := range []command{write("nn", "new"), add("dd", 4), switchTo("b"), reset(2, two), branch("nn", one), switchTo("none"), commit("m")} {
			wantPlain(t, "again", files, c)
		}
		wantRead(t, "again", files)
		repo.Init(me(2))
		repo.Status(nil)
	}
}
