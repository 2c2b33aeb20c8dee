package refs_test

import (
	"slices"
	"testing"

	"codicil/api"
	"codicil/fs"
	"codicil/refs"
	"codicil/txfile"
)

// begun answers a store with these files, and its disk.
func begun(t *testing.T, files []api.File) (*fs.Disk, *txfile.Store) {
	t.Helper()
	disk, _ := fs.New(1 << 20)
	store, e := txfile.Open(disk)
	var list []txfile.Change
	for _, f := range files {
		list = append(list, txfile.Change{Path: f.Path, Data: f.Data})
	}
	if e == api.OK {
		e = store.Commit(list)
	}
	if e != api.OK {
		t.Fatalf("a store: error %d", e)
	}
	return disk, store
}

// filesBehind answers the files of the store that is opened behind a crash.
func filesBehind(t *testing.T, disk *fs.Disk, choices []uint8) []api.File {
	t.Helper()
	disk, _ = disk.Crash(choices)
	store, e := txfile.Open(disk)
	if e != api.OK {
		t.Fatalf("Open behind a crash: error %d", e)
	}
	files, _ := store.Files()
	return files
}

// wantAsWhole fails unless changes by which one stack becomes another one are made as a whole or not at all, whenever the power goes.
func wantAsWhole(t *testing.T, what string, before, behind stack, list []txfile.Change) {
	t.Helper()
	ends := [2]int{}
	for off := 1; ; off++ {
		disk, store := begun(t, before.files())
		disk.Plan(nil, off)
		errno := store.Commit(list)
		for _, choices := range [][]uint8{{0}, {255}, {1, 0, 2}, {3, 1, 4, 1, 5}} {
			files := filesBehind(t, disk, choices)
			there, e := refs.List(files)
			switch {
			case e == api.OK && sameFiles(files, behind.files()):
				wantStack(t, what, files, behind)
				ends[1]++
			case e == api.OK && sameFiles(files, before.files()) && errno == api.ErrOff:
				wantStack(t, what, files, before)
				ends[0]++
			default:
				t.Fatalf("%s, the power goes at the call %d: %v, errors %d and %d", what, off, there, e, errno)
			}
		}
		if !disk.Off() {
			break
		}
	}
	if ends[0] == 0 || ends[1] == 0 {
		t.Errorf("%s: the commit was made %d times, and not made %d times", what, ends[1], ends[0])
	}
}

// P5: the changes of Update and of Drop are made as a whole or not at all.
func TestAsWhole(t *testing.T) {
	five := append(three(), table{nil, nil, 10, 10}, table{[]api.Ref{at("refs/heads/k", 1)}, nil, 11, 11})
	edits := []refs.Edit{expecting(at(mainName, 9), 5), set(gone("refs/heads/c")), set(to("refs/heads/x", mainName))}
	for what, s := range map[string]stack{"a table more": slices.Clone(five[:3]), "the sixth table": five} {
		list, e := refs.Update(s.files(), edits, me(3), "why")
		if e != api.OK {
			t.Fatalf("Update: error %d", e)
		}
		wantAsWhole(t, what, s, s.updated(edits, me(3), "why"), list)
		list, e = refs.Drop(s.files(), 8)
		if e != api.OK {
			t.Fatalf("Drop: error %d", e)
		}
		wantAsWhole(t, what+", dropped", s, s.dropped(8), list)
	}
}
