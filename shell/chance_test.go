package shell_test

import (
	"fmt"
	"math/rand"
	"testing"

	"codicil/api"
	"codicil/fs"
	"codicil/maint"
	"codicil/refs"
	"codicil/sha"
	"codicil/shell"
)

// anySteps answers a few steps by chance, that do something together.
func anySteps(r *rand.Rand, files []api.File, now int) []step {
	path := []string{"a", "b", "c/d", "c", "e"}[r.Intn(5)]
	id := []string{"HEAD", "main", "b", "c", "main", "b", "c", "none"}[r.Intn(8)]
	if list, _ := refs.List(files); r.Intn(4) == 0 && len(list) > 0 {
		id = sha.Hex(list[r.Intn(len(list))].Id)
	}
	text := ""
	for i := range 3 {
		text += fmt.Sprintln(i, r.Intn(3)/2)
	}
	name := []string{"b", "c", "main"}[r.Intn(3)]
	all := [][]string{
		{"write " + path}, {"write " + path, "add " + path}, {"write " + path, "add " + path, "commit m"}, {"write " + path, "add " + path, "commit n"}, {"write a", "add a", "commit o"}, {"write a", "stash"}, {"erase " + path}, {"erase " + path, "add " + path, "commit p"},
		{"branch " + name + " " + id}, {"switch " + name}, {"reset hard HEAD", "switch " + name}, {"reset hard HEAD", "switch " + name}, {"reset hard " + id}, {"reset " + []string{"soft", "mixed", "hard", "x"}[r.Intn(4)] + " " + id},
		{"merge " + id}, {"reset hard HEAD", "merge " + id}, {"rebase " + id}, {"reset hard HEAD", "rebase " + id}, {"reset hard HEAD", "pick " + id}, {"reset hard HEAD", "pop"}, {"pop"}, {"stash"},
		{"write a", "add a", "continue"}, {"add a", "add b", "add e", "continue"}, {"continue"}, {"skip"}, {"abort"}, {"gc 30"}, {"gc 0"}, {"fsck"}, {"status"}, {"log " + id},
	}
	var list []step
	for _, words := range all[r.Intn(len(all))] {
		x := told(words, now)
		x.data = text
		list = append(list, x)
	}
	return list
}

// P27.4: scripts by chance: each command answers what the calls of chapters 24 to 26 do, the files are theirs, and Fsck
// finds nothing; opened again behind a crash all is there.
func TestByChance(t *testing.T) {
	r := rand.New(rand.NewSource(31))
	ends := map[string]int{}
	for round := range 12 {
		s, _ := grown(t)
		var d *fs.Disk
		for i := range 80 {
			for _, x := range anySteps(r, filesOf(t, s), 100+i) {
				text, e := wantDone(t, fmt.Sprint("round ", round), s, x)
				if len(text) > 8 || x.words[0] == "status" {
					text = "text"
				}
				ends[fmt.Sprint(x.words[0], " ", text, " ", e)]++
			}
			if problems := maint.Fsck(filesOf(t, s)); len(problems) > 0 {
				t.Fatalf("round %d: %v", round, problems)
			}
			if d != nil && r.Intn(8) == 0 {
				c, _ := d.Crash([]uint8{uint8(r.Intn(256)), uint8(r.Intn(256))})
				u, e := shell.Open(c, me())
				if e != api.OK || !sameFiles(filesOf(t, u), filesOf(t, s)) {
					t.Fatalf("round %d, behind a crash: error %d, or other files", round, e)
				}
				d, s = c, u
			}
			if d == nil {
				d = holding(t, filesOf(t, s))
				s = opened(t, d)
			}
		}
	}
	for _, end := range []string{"commit text 0", "merge done 0", "merge stopped 0", "rebase done 0", "pick done 0", "pick stopped 0", "continue done 0", "skip done 0", "abort  0", "stash  0", "pop done 0", "gc  0", "fsck clean 0", "status text 0", "log text 0", "switch  0", "reset  0"} {
		if ends[end] == 0 {
			t.Errorf("never by chance: %s", end)
		}
	}
	if testing.Verbose() {
		t.Log(ends)
	}
}

// P1: disks whose files have other bytes, or of which some are gone: each command ends, and answers what the calls do.
func TestSpoiled(t *testing.T) {
	r := rand.New(rand.NewSource(32))
	s, _ := grown(t)
	files := filesOf(t, s)
	wantText(t, "spoiled", s, told("pick b", 95), "stopped")
	stopped := filesOf(t, s)
	for range 60 {
		in := append([]api.File{}, [][]api.File{files, stopped}[r.Intn(2)]...)
		at := r.Intn(len(in))
		if p := append([]byte{}, in[at].Data...); len(p) > 0 && r.Intn(3) > 0 {
			p[r.Intn(len(p))] ^= 1 << r.Intn(8)
			in[at].Data = p
		} else {
			in = append(in[:at], in[at+1:]...)
		}
		for _, text := range all() {
			wantDone(t, "spoiled", opened(t, holding(t, in)), told(text+"|x", 99))
		}
	}
}
