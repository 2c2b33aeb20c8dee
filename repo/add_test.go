package repo_test

import (
	"fmt"
	"strings"
	"testing"

	"codicil/api"
	"codicil/odb"
	"codicil/repo"
)

// wantSlot fails unless the index has just that slot of its path, with Size and Time.
func wantSlot(t *testing.T, what string, files []api.File, wanted api.Slot) {
	t.Helper()
	l, _ := repo.Index(files)
	count := 0
	for _, s := range l {
		if s.Path == wanted.Path {
			count++
			if s != wanted {
				t.Errorf("%s: %v, wanted %v", what, s, wanted)
			}
		}
	}
	if count != 1 {
		t.Errorf("%s: %d slots of %s", what, count, wanted.Path)
	}
	if o, e := odb.Get(files, wanted.Id); e != api.OK || o.Kind != api.Blob || len(o.Data) != wanted.Size {
		t.Errorf("%s: the blob is of kind %d, error %d", what, o.Kind, e)
	}
}

// P24.3: a new file, a changed one, one that is the same, each with its mode.
func TestAdd(t *testing.T) {
	files := working(indexed(begun(t), sized(slots("b x", "c* x", "d@ x"))), "a new", "b longer", "c ", "d x", "e left")
	for _, one := range []struct {
		path, told string
		size       int
	}{{"a", "a new", 3}, {"b", "b longer", 6}, {"c", "c* ", 0}, {"d", "d@ x", 1}} {
		files = want(t, "worktree has it", files, add(one.path, 77))
		wanted := slot(one.told)
		wanted.Size, wanted.Time = one.size, 77
		wantSlot(t, one.path, files, wanted)
	}
	wantIndex(t, "all", files, "a new", "b longer", "c* ", "d@ x")
	wantWork(t, "the worktree stays", files, "a new", "b longer", "c ", "d x", "e left")
	again := want(t, "the same time", files, add("d", 77))
	if !sameFiles(files, again) {
		t.Errorf("Add again: it %s", differing(again, files))
	}
}

// P24.3: a path of several stages has one then, with the mode of the least.
func TestAddStages(t *testing.T) {
	for told, mode := range map[string]string{
		"1:a* 1,2:a 2,3:a@ 3": "a*", "2:a@ 2,3:a 3": "a@", "3:a* 3": "a*", "1:a 1,3:a* 3": "a", "1:a@ 1": "a@", "2:a 2,3:a* 3": "a",
	} {
		list := strings.Split(told, ",")
		files := working(indexed(begun(t), slots(append(list, "b x")...)), "a made")
		behind := want(t, told, files, add("a", 1))
		wantIndex(t, told, behind, mode+" made", "b x")
		gone := want(t, told+", gone", without(files, "work/a"), add("a", 1))
		wantIndex(t, told+", gone", gone, "b x")
	}
}

// P24.3: a path that went has no slot then, also where others stand in its folder; other paths keep theirs.
func TestAddGone(t *testing.T) {
	files := working(indexed(begun(t), sized(slots("a x", "a/b y", "c z"))), "a/b y")
	behind := want(t, "gone", files, add("a", 5))
	wantIndex(t, "gone", behind, "a/b y", "c z")
	l, _ := repo.Index(behind)
	if l[0].Size != 8 || l[0].Time != 10 {
		t.Errorf("Add of another path: %v", l[0])
	}
	behind = want(t, "the last ones", behind, erase("a/b"), add("a/b", 5), add("c", 5))
	wantIndex(t, "the last ones", behind)
}

// P24.3: neither the worktree nor the index has it.
func TestAddNone(t *testing.T) {
	files, _ := at(t, "a/b x", "c y")
	for _, path := range []string{"", "a", "a/", "a/b/c", "d", "/c", "c/", "index", "work/c", long(300)} {
		wantError(t, "neither", files, add(path, 1), api.ErrNone)
	}
}

// P24.3: times at their limits, ahead of a path that isn't there.
func TestAddTimes(t *testing.T) {
	files := working(begun(t), "a x")
	for _, now := range []int{0, 1, 1<<32 - 1} {
		want(t, "a time", files, add("a", now))
	}
	for _, now := range []int{-1, 1 << 32, -1 << 63, 1<<63 - 1} {
		wantError(t, "no time", files, add("a", now), api.ErrArg)
		wantError(t, "no time, nothing there", files, add("b", now), api.ErrArg)
		wantError(t, "no time, gone", indexed(files, slots("c x")), add("c", now), api.ErrArg)
		wantError(t, "no time, a folder", indexed(files, slots("a/b x")), add("a", now), api.ErrArg)
	}
}

// P24.3: a path that is a folder of another slot's, of whatever stage, or the other way round.
func TestAddFolders(t *testing.T) {
	for _, told := range []string{"a/b/c/d x", "a x", "a/b x", "2:a/b/c/d x", "3:a x", "a/b/c/d/e x"} {
		files := working(indexed(begun(t), slots(told, "z x")), "a/b/c y")
		wantError(t, told, files, add("a/b/c", 1), api.ErrExists)
	}
	files := working(indexed(begun(t), slots("a x", "a- x", "a.b x")), "a/b y")
	wantError(t, "others stand between", files, add("a/b", 1), api.ErrExists)
	files = working(indexed(begun(t), slots("a- x", "a/b x", "ab x")), "a y")
	wantError(t, "others stand between, the other way round", files, add("a", 1), api.ErrExists)
	for _, told := range []string{"a/bb x", "a/b/cd x", "a- x", "a/b- x", "b x", "a/b/d x"} {
		want(t, told, working(indexed(begun(t), slots(told)), "a/b/c y"), add("a/b/c", 1))
	}
	// Folders among other slots are of no account, nor are the worktree's.
	want(t, "others", working(indexed(begun(t), slots("b x", "b/c x")), "a y"), add("a", 1))
	want(t, "the worktree's", working(begun(t), "a x", "a/b y"), add("a", 1))
}

// P24.3: a file that no object can have, behind ErrExists and ahead of the index's error.
func TestAddLong(t *testing.T) {
	most := strings.Repeat("m", api.MaxData-len("blob 1048576")-1)
	files := working(begun(t), "a "+most)
	want(t, "most", files, add("a", 1))
	wantError(t, "one more", working(files, "a m"+most), add("a", 1), api.ErrLong)
	wantError(t, "one more, a folder", working(indexed(files, slots("a/b x")), "a m"+most), add("a", 1), api.ErrExists)
	huge := having(files, "work/a", strings.Repeat("m", api.MaxData+1))
	wantError(t, "more than any object", huge, add("a", 1), api.ErrLong)
	want(t, "gone", without(indexed(huge, slots("a x")), "work/a"), add("a", 1))
}

// P24.3: an index that is full takes no path more, but another file of a path that it has.
func TestAddFull(t *testing.T) {
	var list []string
	for i := range api.MaxEntries {
		list = append(list, fmt.Sprintf("f%04d x", i))
	}
	files := working(indexed(begun(t), slots(list...)), "a new", "f0007 new")
	wantError(t, "full", files, add("a", 1), api.ErrLong)
	files = want(t, "one that it has", files, add("f0007", 1))
	files = want(t, "one goes", files, add("f0008", 1), add("a", 1))
	wantError(t, "full again", working(files, "b x"), add("b", 1), api.ErrLong)
}

// P24.3: a path longer than what comes into the worktree may stand there by hand, and is added.
func TestAddLongPath(t *testing.T) {
	files := having(begun(t), "work/"+long(195), "x")
	behind := want(t, "long", files, add(long(195), 1))
	wantIndex(t, "long", behind, long(195)+" x")
	want(t, "long, gone", behind, erase(long(195)), add(long(195), 1))
}

// P24.3: a blob that is there already, with a file of its own or in a pack, is no object more.
func TestAddKnown(t *testing.T) {
	files, ids := stored(begun(t), blob("x"))
	for _, files := range [][]api.File{files, packedUp(t, files)} {
		behind := want(t, "known", working(files, "a x"), add("a", 1))
		if all, _ := odb.Ids(behind); len(all) != 1 || all[0] != ids[0] || len(behind) != len(files)+1 {
			t.Errorf("Add of a known blob: %d objects, %d files", len(all), len(behind))
		}
	}
}
