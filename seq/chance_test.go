package seq_test

import (
	"fmt"
	"maps"
	"math/rand"
	"slices"
	"strings"
	"testing"

	"codicil/api"
	"codicil/odb"
	"codicil/refs"
	"codicil/repo"
)

// run is a repository that commands by chance have made.
type run struct {
	r       *rand.Rand
	files   []api.File
	commits []api.Id
	begun   []api.File // ahead of what is under way
	time    int
}

func (x *run) path() string {
	return []string{"a", "b", "c/d", "c/e", "f", "g", "c", "a/h"}[x.r.Intn(8)]
}

// text answers a text of few lines, of which some are like those of others.
func (x *run) text() string {
	text := ""
	for i := range 4 {
		if x.r.Intn(4) > 0 {
			text += fmt.Sprint(i*3 + max(0, x.r.Intn(5)-2))
			text += "\n"
		}
	}
	return text
}

func (x *run) name() string { return []string{"main", "b", "c"}[x.r.Intn(3)] }

// id answers the id of a commit, now and then of something else.
func (x *run) id() api.Id {
	if len(x.commits) == 0 || x.r.Intn(25) == 0 {
		return []api.Id{{}, {1}, idOf(api.Object{Kind: api.Tree})}[x.r.Intn(3)]
	}
	// The others' branches are asked for as often as all that ever was.
	if list, _ := refs.List(x.files); x.r.Intn(2) == 0 {
		return list[x.r.Intn(len(list))].Id
	}
	return x.commits[x.r.Intn(len(x.commits))]
}

func (x *run) who() api.Ident {
	x.time++
	return me(x.time)
}

// work does something by the commands of chapter 24, where these take it.
func (x *run) work() {
	var made []api.File
	var e api.Errno
	switch x.r.Intn(12) {
	case 0, 1, 2:
		path := x.path()
		if made, e = repo.Write(x.files, path, []byte(x.text())); e == api.OK && x.r.Intn(5) > 0 {
			x.files = made
			made, e = repo.Add(made, path, x.time)
		}
	case 3:
		path := x.path()
		if made, e = repo.Erase(x.files, path); e == api.OK && x.r.Intn(5) > 0 {
			x.files = made
			made, e = repo.Add(made, path, x.time)
		}
	case 4, 5, 6:
		var id api.Id
		if made, id, e = repo.Commit(x.files, x.who(), fmt.Sprint("m", x.r.Intn(100))); e == api.OK {
			x.commits = append(x.commits, id)
		}
	case 7:
		made, e = repo.Branch(x.files, x.name(), x.id(), x.who())
	case 8, 9, 10:
		made, e = repo.Switch(x.files, x.name(), x.who())
	case 11:
		made, e = repo.Reset(x.files, 2, x.id(), x.who())
	}
	if e == api.OK {
		x.files = made
	}
}

// settle adds what clashes, as it is or by another text.
func (x *run) settle() {
	l, _ := repo.Index(x.files)
	for _, s := range l {
		if s.Stage == 0 {
			continue
		}
		if x.r.Intn(2) == 0 {
			x.try(repo.Write(x.files, s.Path, []byte(x.text())))
		}
		x.try(repo.Add(x.files, s.Path, x.time))
	}
}

// try takes files, if there is no error.
func (x *run) try(made []api.File, e api.Errno) {
	if e == api.OK {
		x.files = made
	}
}

// command answers a command by chance: such as may be made, mostly.
func (x *run) command() command {
	if _, busy := textOf(x.files, "seq"); busy && x.r.Intn(10) > 0 {
		return []command{goOnBy(x.who()), goOnBy(x.who()), goOnBy(x.who()), skipBy(x.who()), abortBy(x.who())}[x.r.Intn(5)]
	}
	switch x.r.Intn(20) {
	case 0, 1, 2, 3, 4:
		return mergeBy(x.who(), x.id())
	case 5, 6, 7, 8:
		var list []api.Id
		for range x.r.Intn(4) + min(1, x.r.Intn(9)) {
			list = append(list, x.id())
		}
		return pickBy(x.who(), list...)
	case 9, 10, 11, 12:
		return rebaseBy(x.who(), x.id())
	case 13, 14, 15, 16:
		x.change()
		return stashBy(x.who())
	case 17, 18:
		return popBy(x.who())
	}
	return []command{goOnBy(x.who()), skipBy(x.who()), abortBy(x.who())}[x.r.Intn(3)]
}

// change changes a file that the index knows, and now and then makes the index not know it any more.
func (x *run) change() {
	l, _ := repo.Index(x.files)
	if len(l) == 0 {
		return
	}
	at := x.r.Intn(len(l))
	x.try(repo.Write(x.files, l[at].Path, []byte(x.text())))
	if x.r.Intn(6) == 0 {
		x.files = indexed(x.files, slices.Delete(l, at, at+1))
	}
}

// tidyUp makes index and worktree what the tip has, but for what nobody knows.
func (x *run) tidyUp() {
	if _, busy := textOf(x.files, "seq"); !busy {
		x.try(repo.Reset(x.files, 2, tipOf(x.files), me(5)))
	}
}

// tamper changes files by hand.
func (x *run) tamper() {
	switch x.r.Intn(4) {
	case 0:
		ids, _ := odb.Ids(x.files)
		if changes, e := odb.Repack(x.files, ids); e == api.OK {
			x.files, _ = odb.Made(x.files, changes)
		}
	case 1:
		x.files = working(x.files, x.path()+" "+x.text())
	case 2:
		word := []string{"merge", "pick", "rebase"}[x.r.Intn(3)]
		if _, busy := textOf(x.files, "seq"); !busy && x.r.Intn(3) == 0 {
			x.files = patched(x.files, map[string][]byte{"seq": seqText(word, x.id(), x.id())})
			x.begun = nil
		}
	case 3:
		x.tidyUp()
	}
}

// took holds what a command did against what there was: what is to do becomes less, Abort takes all back.
func (x *run) took(t *testing.T, c command, made []api.File) {
	t.Helper()
	_, before := wantTodo(t, c.what, x.files)
	_, after := wantTodo(t, c.what, made)
	switch {
	case (c.what == "Continue" || c.what == "Skip") && len(after) >= len(before):
		t.Fatalf("%s: %d to do, there were %d", c.what, len(after), len(before))
	case c.what == "Abort" && x.begun != nil:
		a, _ := viewOf(made)
		b, _ := viewOf(x.begun)
		if a.branch != b.branch || a.tip != b.tip || !slices.Equal(bare(a.slots), bare(b.slots)) || !a.isTidy(b.slots) {
			t.Fatalf("Abort: %v, it was %v", a, b)
		}
	case len(before) == 0 && len(after) > 0:
		x.begun = x.files
	}
	if tip := tipOf(made); !slices.Contains(x.commits, tip) && tip != (api.Id{}) {
		x.commits = append(x.commits, tip)
	}
}

// P25.1 to P25.7: runs of commands by chance against the chapter's words.
func TestByChance(t *testing.T) {
	r := rand.New(rand.NewSource(25))
	ends := map[string]int{}
	for range 28 {
		x := &run{r: r, files: begun()}
		for range 8 {
			x.work()
		}
		for range 40 {
			for range r.Intn(4) {
				x.work()
			}
			if r.Intn(2) == 0 {
				x.settle()
			}
			if r.Intn(3) > 0 {
				x.tidyUp()
			}
			if r.Intn(12) == 0 {
				x.tamper()
			}
			c := x.command()
			made, done, e := wantPlain(t, "by chance", x.files, c)
			word, _, _ := strings.Cut(c.what, " ")
			ends[fmt.Sprintf("%s %v %d", word, done, e)]++
			if e == api.OK {
				x.took(t, c, made)
				x.files = made
			}
		}
	}
	for _, end := range []string{
		"Merge true 0", "Merge false 0", "Merge false 7", "Merge false 14", "Merge false 15", "Merge false 17",
		"Pick true 0", "Pick false 0", "Pick false 1", "Pick false 7", "Pick false 14", "Pick false 15",
		"Rebase true 0", "Rebase false 0", "Rebase false 7", "Rebase false 14", "Rebase false 15", "Rebase false 17",
		"Continue true 0", "Continue false 0", "Continue false 14", "Continue false 15", "Continue false 16",
		"Skip true 0", "Skip false 0", "Skip false 15", "Abort false 0", "Abort false 15",
		"Stash false 0", "Stash false 14", "Stash false 15", "Stash false 17", "Pop true 0", "Pop false 0", "Pop false 7", "Pop false 14", "Pop false 15",
	} {
		if ends[end] == 0 {
			t.Errorf("never by chance: %s", end)
		}
	}
	if testing.Verbose() {
		for _, end := range slices.Sorted(maps.Keys(ends)) {
			t.Logf("%s: %d times", end, ends[end])
		}
	}
}

// P1: files of which some have other bytes, are gone, or stand elsewhere: each command ends, and answers what the chapter's
// words do.
func TestSpoiled(t *testing.T) {
	r := rand.New(rand.NewSource(26))
	files, from, ours, theirs := twoSides("a 1\n2\n|k same", "a 1\nours\n|k same", "a 1\ntheirs\n|c new|k same")
	files, onto := grown(files, "onto", ids(from), "a 1\n2\n", "d new", "k same")
	files = referring(files, api.Ref{Name: topName, Id: onto})
	stopped, _, _ := plainPick(files, ids(theirs, onto), me(12))
	settled, _ := stored(working(indexed(stopped, slots("a both", "c new", "k same")), "a both"), blob("both"))
	merged := patched(settled, map[string][]byte{"seq": seqText("merge", ours, theirs)})
	packed := files
	all, _ := odb.Ids(files)
	if changes, e := odb.Repack(files, all); e == api.OK {
		packed, _ = odb.Made(files, changes)
	}
	ends := map[api.Errno]int{}
	for range 150 {
		in := [][]api.File{files, stopped, settled, merged, packed}[r.Intn(5)]
		for range 1 + r.Intn(2) {
			f := in[r.Intn(len(in))]
			switch r.Intn(4) {
			case 0, 1:
				p := slices.Clone(f.Data)
				if len(p) > 0 {
					p[r.Intn(len(p))] ^= 1 << r.Intn(8)
				}
				in = patched(in, map[string][]byte{f.Path: p})
			case 2:
				in = without(in, f.Path)
			case 3:
				in = having(in, f.Path, string(in[r.Intn(len(in))].Data))
			}
		}
		for _, c := range append(commands(theirs), merge(onto), pick(theirs, onto), rebase(onto)) {
			_, _, e := wantPlain(t, "spoiled", in, c)
			ends[e]++
		}
	}
	if len(ends) < 7 {
		t.Errorf("too little was tried: %v", ends)
	}
}
