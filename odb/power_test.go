package odb_test

import (
	"testing"

	"codicil/api"
	"codicil/fs"
	"codicil/odb"
	"codicil/txfile"
)

// begun answers a store with these files, and its disk.
func begun(t *testing.T, files []api.File) (*fs.Disk, *txfile.Store) {
	t.Helper()
	disk, _ := fs.New(1 << 20)
	store, e := txfile.Open(disk)
	if e == api.OK {
		e = store.Commit(changes(files...))
	}
	if e != api.OK {
		t.Fatalf("a store: error %d", e)
	}
	return disk, store
}

// filesBehind answers the files of the store that is opened behind a crash.
func filesBehind(t *testing.T, disk *fs.Disk, choices ...uint8) []api.File {
	t.Helper()
	disk, _ = disk.Crash(choices)
	store, e := txfile.Open(disk)
	if e != api.OK {
		t.Fatalf("Open behind a crash: error %d", e)
	}
	files, _ := store.Files()
	return files
}

// wantAsWhole fails unless changes are made as a whole or not at all, whenever the power goes; look is shown the files behind each crash.
func wantAsWhole(t *testing.T, before []api.File, list []txfile.Change, look func(files []api.File)) {
	t.Helper()
	behind := made(t, before, list)
	ends := [2]int{}
	for off := 1; ; off++ {
		disk, store := begun(t, before)
		disk.Plan(nil, off)
		e := store.Commit(list)
		for _, choices := range [][]uint8{{0}, {255}, {1, 0, 2}, {3, 1, 4, 1, 5}} {
			files := filesBehind(t, disk, choices...)
			switch {
			case sameFiles(files, behind):
				ends[1]++
			case sameFiles(files, before) && e == api.ErrOff:
				ends[0]++
			default:
				t.Fatalf("the power goes at the call %d: %d files, error %d", off, len(files), e)
			}
			look(files)
		}
		if !disk.Off() {
			break
		}
	}
	if ends[0] == 0 || ends[1] == 0 {
		t.Errorf("the commit was made %d times, and not made %d times", ends[1], ends[0])
	}
}

// P5, P8, P14.4: the changes of Put and of Repack are made as a whole or not at all, and what is kept is got behind each crash.
func TestAsWhole(t *testing.T) {
	before := mixedFiles()
	kept := blobs("one", "two", "ijklmnop")
	list, _, e := odb.Put(before, blobs("new", "one", "newer"))
	if e != api.OK {
		t.Fatalf("Put: error %d", e)
	}
	wantAsWhole(t, before, list, func(files []api.File) {
		_, first := odb.Get(files, blobId("new"))
		_, second := odb.Get(files, blobId("newer"))
		if first != second {
			t.Errorf("one object is there, the other isn't: errors %d and %d", first, second)
		}
	})
	list, e = odb.Repack(before, idsOf(kept...))
	if e != api.OK {
		t.Fatalf("Repack: error %d", e)
	}
	wantAsWhole(t, before, list, func(files []api.File) {
		for _, o := range kept {
			wantObject(t, "behind a crash", files, o)
		}
	})
}
