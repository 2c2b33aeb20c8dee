package repo_test

import (
	"fmt"
	"maps"
	"math/rand"
	"slices"
	"testing"

	"codicil/api"
	"codicil/odb"
	"codicil/refs"
	"codicil/repo"
)

// chancePaths are paths that lie in each other's way now and then.
func chancePaths() []string {
	return []string{"a", "a-", "a/b", "a/c", "b", "c/d", "c/d/e", "f", "g/h", "g", long(151)}
}

// run is a repository that commands by chance have made, and how it was before.
type run struct {
	r       *rand.Rand
	files   []api.File
	commits []api.Id
	before  [][]api.File
}

func (x *run) path() string { return chancePaths()[x.r.Intn(len(chancePaths()))] }

func (x *run) text() string { return fmt.Sprint(x.r.Intn(4)) }

func (x *run) name() string {
	return []string{"main", "main", "b", "b", "c", "c", "d/e", "none"}[x.r.Intn(8)]
}

// known answers a path that the worktree or the index has, mostly.
func (x *run) known() string {
	status, _ := repo.Status(x.files)
	if len(status) == 0 || x.r.Intn(4) == 0 {
		return x.path()
	}
	return status[x.r.Intn(len(status))].Path
}

// id answers the id of a commit, now and then of something else.
func (x *run) id() api.Id {
	if len(x.commits) == 0 || x.r.Intn(12) == 0 {
		return []api.Id{{}, {1}, idOf(blob(x.text())), idOf(api.Object{Kind: api.Tree})}[x.r.Intn(4)]
	}
	return x.commits[x.r.Intn(len(x.commits))]
}

// command answers a command by chance.
func (x *run) command() command {
	switch x.r.Intn(20) {
	case 0, 1, 2, 3:
		return write(x.path(), x.text())
	case 4:
		return erase(x.known())
	case 5, 6, 7, 8, 9:
		return add(x.known(), x.r.Intn(50)-1)
	case 10, 11, 12:
		return commit("m" + x.text())
	case 13:
		return branch(x.name(), x.id())
	case 14, 15:
		return reset(x.r.Intn(3), x.id())
	}
	return switchTo(x.name())
}

// grow makes branches whose commits have files by chance.
func (x *run) grow(t *testing.T) {
	t.Helper()
	for _, name := range []string{"main", "b", "c"} {
		var list []string
		for _, path := range []string{"a", "b", "c/d", "f", "g"} {
			if x.r.Intn(3) > 0 {
				list = append(list, path+" "+x.text())
			}
		}
		var id api.Id
		x.files, id = branching(x.files, name, list...)
		x.commits = append(x.commits, id)
	}
	x.files = want(t, "grown", x.files, reset(2, x.commits[0]))
}

// tamper changes files by hand: what others than these commands may have left.
func (x *run) tamper() {
	switch x.r.Intn(9) {
	case 0:
		x.files = having(x.files, "seq", "x")
	case 1, 2:
		l, _ := repo.Index(x.files)
		path := x.path()
		l = slices.DeleteFunc(l, func(s api.Slot) bool { return s.Path == path })
		stages := [][]int{{0}, {0}, {1}, {2}, {3}, {1, 2}, {1, 3}, {2, 3}, {1, 2, 3}}
		for _, stage := range stages[x.r.Intn(len(stages))] {
			s := slot(path + " " + x.text())
			s.Stage = stage
			s.Mode = []int{api.ModeFile, api.ModeExec, api.ModeLink}[x.r.Intn(3)]
			l = append(l, s)
		}
		slices.SortStableFunc(l, func(a, b api.Slot) int { return slices.Compare([]byte(a.Path), []byte(b.Path)) })
		x.files = indexed(x.files, l)
	case 3:
		x.files = having(x.files, "work/"+x.path(), x.text())
	case 4:
		x.files = without(x.files, place(x.text()))
	case 5:
		l, _ := repo.Index(x.files)
		for i := range l {
			l[i].Mode = []int{api.ModeFile, api.ModeExec, api.ModeLink}[x.r.Intn(3)]
		}
		x.files = indexed(x.files, l)
	case 6:
		ids, _ := odb.Ids(x.files)
		if changes, e := odb.Repack(x.files, ids); e == api.OK {
			x.files, _ = odb.Made(x.files, changes)
		}
	case 7:
		x.files = referring(x.files, api.Ref{Name: "refs/heads/" + x.name(), Id: x.id()})
	case 8:
		x.files, _ = stored(x.files, blob("0"), blob("1"), blob("2"), blob("3"))
	}
}

// P24.1 to P24.8: runs of commands by chance, with tampering between, against the chapter's words.
func TestByChance(t *testing.T) {
	r := rand.New(rand.NewSource(24))
	ends := map[string]int{}
	for range 40 {
		x := &run{r: r, files: begun(t)}
		if r.Intn(4) > 0 {
			x.grow(t)
		}
		for range 80 {
			c := x.command()
			made, id, e := wantPlain(t, "by chance", x.files, c)
			ends[fmt.Sprintf("%.6s %d", c.what, e)]++
			if e == api.OK {
				x.before = append(x.before, x.files)
				x.files = made
			}
			if id != (api.Id{}) {
				x.commits = append(x.commits, id)
			}
			ends[fmt.Sprintf("Status %d", wantRead(t, "by chance", x.files))]++
			switch r.Intn(12) {
			case 0:
				x.tamper()
			case 1, 2:
				// What tampering did is over now and then.
				l, _ := repo.Index(x.files)
				l = slices.DeleteFunc(l, func(s api.Slot) bool { return s.Stage != 0 })
				x.files = indexed(without(x.files, "seq"), l)
				if len(x.before) > 0 && r.Intn(3) == 0 {
					x.files = x.before[r.Intn(len(x.before))]
				}
			}
		}
		wantNotes(t, x.files)
	}
	for _, end := range []string{
		"Write( 0", "Write( 3", "Write( 8", "Erase( 0", "Erase( 7", "Add(\"a 0", "Add(\"a 1", "Add(\"a 7", "Add(\"a 8",
		"Commit 0", "Commit 8", "Commit 15", "Commit 16", "Commit 17", "Branch 0", "Branch 7", "Branch 8", "Branch 9",
		"Switch 0", "Switch 7", "Switch 14", "Switch 15", "Switch 16", "Reset( 0", "Reset( 7", "Reset( 8", "Reset( 9", "Reset( 15", "Status 0", "Status 7",
	} {
		if ends[end] == 0 {
			t.Errorf("never by chance: %s", end)
		}
	}
	if testing.Verbose() {
		for _, end := range slices.Sorted(maps.Keys(ends)) {
			t.Logf("%s: %d times", end, ends[end])
		}
	}
}

// wantNotes fails unless each note of a reference begins where the one ahead of it ends.
func wantNotes(t *testing.T, files []api.File) {
	t.Helper()
	list, _ := refs.List(files)
	for _, ref := range list {
		notes, e := refs.Notes(files, ref.Name)
		if e != api.OK || ref.Target == "" && (len(notes) == 0 || notes[0].New != ref.Id) {
			t.Errorf("the notes of %s: %v, error %d", ref.Name, notes, e)
		}
	}
}
