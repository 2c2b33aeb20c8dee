package maint_test

import (
	"fmt"
	"math/rand"
	"slices"
	"strings"
	"testing"

	"codicil/api"
	"codicil/maint"
	"codicil/odb"
	"codicil/pack"
	"codicil/packidx"
	"codicil/refs"
)

// wantWell fails unless all is well, wantIll if it is.
func wantWell(t *testing.T, what string, files []api.File) {
	t.Helper()
	if !wantFsck(t, what, files) {
		t.Errorf("%s: all isn't well: %v", what, maint.Fsck(files))
	}
}

func wantIll(t *testing.T, what string, files []api.File) {
	t.Helper()
	if wantFsck(t, what, files) {
		t.Errorf("%s: all is well", what)
	}
}

// P26.4: all is well behind Init, in a rich repository, in one whose objects stand in a pack, in two, or there twice.
func TestFsckWell(t *testing.T) {
	wantWell(t, "Init", begun())
	files, _ := rich()
	wantWell(t, "rich", files)
	packed, _, _ := packedUp(files)
	wantWell(t, "in a pack", packed)
	wantWell(t, "in a pack, and as files", patched(files, filesOf(packed)))
	ids, _ := odb.Ids(files)
	half, _ := odb.Repack(files, ids[:len(ids)/2])
	few, _ := odb.Made(files, half)
	wantWell(t, "two packs", patched(packed, filesOf(few)))
	wantWell(t, "others", having(having(having(packed, "x", nil), "objects.x", nil), "work/objects/x", []byte("y")))
	wantWell(t, "a file objects", having(begun(), "objects", []byte("x")))
	wantWell(t, "nobody's objects", stored(files, tag(api.Blob, idOf(blob("nobody's"))), tree()))
	wantWell(t, "a tag's reference", referring(stored(files, tag(api.Blob, idOf(blob("nobody's")))), api.Ref{Name: "refs/tags/t", Id: idOf(tag(api.Blob, idOf(blob("nobody's"))))}))
	wantWell(t, "a blob's reference", referring(files, api.Ref{Name: "refs/tags/t", Id: idOf(blob("nobody's"))}))
	wantWell(t, "the branch isn't there", referring(files, api.Ref{Name: "HEAD", Target: "refs/heads/none"}))
	wantWell(t, "a table that nobody names", having(files, "reftable/x.ref", []byte("y")))
}

// filesOf answers files by their paths.
func filesOf(files []api.File) map[string][]byte {
	all := map[string][]byte{}
	for _, f := range files {
		all[f.Path] = f.Data
	}
	return all
}

// P26.4: each file under objects/ that may not stand there: the chapter's examples.
func TestFsckPlaces(t *testing.T) {
	files, _ := rich()
	packed, p, x := packedUp(files)
	some := place(idOf(blob("1\n")))
	for _, path := range []string{
		"objects/x", "objects/pack", "objects/pack/x", "objects/pack/x.idx", "objects/pack/.pack", "objects/pack/x.pack", "objects/pack/a/b.pack", "objects/pack/pack.idx", "objects/00", "objects/00/x", "objects/zz/x",
		"objects/" + strings.ToUpper(some[8:10]) + some[10:], some + "0", some[:len(some)-1], some + ".idx", some[:10] + "A" + some[11:], "objects/" + some[8:10] + some[11:], p + ".idx", p + "x", x + ".idx", strings.TrimSuffix(p, ".pack"), some + "/x", p + "/x",
	} {
		for what, data := range map[string][]byte{"no bytes": nil, "an object's": dataOf(files, some), "a pack's": dataOf(packed, p), "an index's": dataOf(packed, x)} {
			wantIll(t, path+" with "+what+" bytes", having(packed, path, data))
			wantIll(t, path+" with "+what+" bytes", having(files, path, data))
		}
	}
	other := place(idOf(blob("2\n")))
	wantIll(t, "another object's bytes", having(files, some, dataOf(files, other)))
	wantIll(t, "no bytes", having(files, some, nil))
	wantIll(t, "a byte more", having(files, some, append(dataOf(files, some), 0)))
	wantIll(t, "a pack's bytes", having(files, some, dataOf(packed, p)))
	for at := range dataOf(files, some) {
		wantIll(t, fmt.Sprint("the byte ", at), turned(files, some, at))
	}
}

// P26.4: a pack and its index: each byte turned, one less or more, another one's, or not there.
func TestFsckPacks(t *testing.T) {
	files, _ := rich()
	ids, _ := odb.Ids(files)
	packed, p, x := packedUp(files)
	for _, path := range []string{p, x} {
		size := len(dataOf(packed, path))
		for at := 0; at < size; at += 1 + size/60 {
			wantIll(t, fmt.Sprint(path, " turned at ", at), turned(packed, path, at))
		}
		for at := -40; at < 0; at++ {
			wantIll(t, fmt.Sprint(path, " turned at ", at), turned(packed, path, at))
		}
		wantIll(t, "a byte less", having(packed, path, dataOf(packed, path)[:size-1]))
		wantIll(t, "a byte more", having(packed, path, append(dataOf(packed, path), 0)))
		wantIll(t, "no bytes", having(packed, path, nil))
		wantIll(t, "not there", without(packed, path))
		// All objects are there still, as files of their own: but the pack isn't well.
		wantIll(t, "no bytes, of objects that are there", patched(having(packed, path, nil), filesOf(files)))
	}
	wantIll(t, "the index isn't there, but all objects are", patched(without(packed, x), filesOf(files)))
	wantIll(t, "the pack isn't there, but all objects are", patched(without(packed, p), filesOf(files)))
	all := patched(packed, filesOf(files))
	found, _ := pack.Read(dataOf(packed, p))
	var rows []packidx.Row
	for _, f := range found {
		rows = append(rows, packidx.Row{Id: f.Id, Crc: f.Crc, At: uint64(f.At)})
	}
	end := api.Id(dataOf(packed, p)[len(dataOf(packed, p))-32:])
	build := func(rows []packidx.Row, end api.Id) []byte {
		data, e := packidx.Build(rows, end)
		if e != api.OK {
			t.Fatalf("packidx.Build: error %d", e)
		}
		return data
	}
	wantWell(t, "the same index", having(all, x, build(rows, end)))
	wantIll(t, "another end", having(all, x, build(rows, api.Id{1})))
	wantIll(t, "a row less", having(all, x, build(rows[1:], end)))
	wantIll(t, "no rows", having(all, x, build(nil, end)))
	for what, change := range map[string]func(r *packidx.Row){
		"another Crc": func(r *packidx.Row) { r.Crc++ }, "another place": func(r *packidx.Row) { r.At++ }, "a great place": func(r *packidx.Row) { r.At += 1 << 40 }, "another id": func(r *packidx.Row) { r.Id[31]++ },
	} {
		changed := slices.Clone(rows)
		change(&changed[len(rows)/2])
		wantIll(t, what, having(all, x, build(changed, end)))
	}
	more := append(slices.Clone(rows), packidx.Row{Id: api.Id{1}, At: 12})
	wantIll(t, "a row more", having(all, x, build(more, end)))
	swapped := slices.Clone(rows)
	swapped[0].At, swapped[1].At = rows[1].At, rows[0].At
	wantIll(t, "two places swapped", having(all, x, build(swapped, end)))
	// A pack that has one object twice has no index that is just it.
	o, _ := odb.Get(files, ids[0])
	twice, _ := pack.Write([]pack.Item{{Kind: int(o.Kind), Data: o.Data}, {Kind: int(o.Kind), Data: o.Data}}, 2)
	found, _ = pack.Read(twice)
	row := packidx.Row{Id: found[0].Id, Crc: found[0].Crc, At: uint64(found[0].At)}
	with := having(having(files, "objects/pack/t.pack", twice), "objects/pack/t.idx", build([]packidx.Row{row}, api.Id(twice[len(twice)-32:])))
	wantIll(t, "one object twice", with)
	none, _ := pack.Write(nil, 2)
	empty := having(having(files, "objects/pack/e.pack", none), "objects/pack/e.idx", build(nil, api.Id(none[len(none)-32:])))
	wantWell(t, "a pack of no objects", empty)
}

// P26.4: objects out of form, and links to what isn't there, or has another kind; also of objects that nobody needs.
func TestFsckObjects(t *testing.T) {
	files, _ := rich()
	a := blob("1\n")
	for what, list := range map[string][]api.Object{
		"a tree out of form": {{Kind: api.Tree, Data: []byte("x")}}, "a commit out of form": {{Kind: api.Commit, Data: []byte("x")}}, "a tag out of form": {{Kind: api.Tag, Data: []byte("x")}},
		"a tree's blob isn't there": {tree(api.Entry{Mode: api.ModeFile, Name: "a", Id: api.Id{1}})}, "a tree's tree isn't there": {tree(api.Entry{Mode: api.ModeTree, Name: "a", Id: api.Id{1}})},
		"a tree's tree is a blob": {tree(api.Entry{Mode: api.ModeTree, Name: "a", Id: idOf(a)})}, "a tree's link is a tree": {tree(), tree(api.Entry{Mode: api.ModeLink, Name: "a", Id: idOf(tree())})},
		"a commit's tree isn't there": {commit(api.Id{1})}, "a commit's tree is a blob": {commit(idOf(a))}, "a commit's parent isn't there": {tree(), commit(idOf(tree()), api.Id{1})},
		"a commit's parent is a tree": {tree(), commit(idOf(tree()), idOf(tree()))}, "a tag's target isn't there": {tag(api.Blob, api.Id{1})}, "a tag's target is another kind": {tag(api.Tree, idOf(a))},
	} {
		with := stored(files, list...)
		wantIll(t, what, with)
		packed, _, _ := packedUp(with)
		wantIll(t, what+", in a pack", packed)
	}
	ids, _ := odb.Ids(files)
	for _, id := range ids {
		gone := wantFsck(t, "an object is gone", without(files, place(id)))
		if gone != (id == idOf(blob("nobody's"))) {
			t.Errorf("without %x: all is well: %v", id[:4], gone)
		}
		wantIll(t, "a byte turned", turned(files, place(id), 9))
	}
}

// P26.4: HEAD's Target, other Targets, branches and stashes that are no commits, roots that aren't there.
func TestFsckRefs(t *testing.T) {
	files, other := rich()
	a, root := idOf(blob("1\n")), idOf(tree())
	files = stored(files, tree(), tag(api.Commit, other))
	refer := func(r api.Ref) []api.File { return referring(files, r) }
	for _, target := range []string{"refs/tags/t", "refs/stash/top", "refs/heads.x/a", "HEAD", "refs/head/x"} {
		wantIll(t, "HEAD to "+target, refer(api.Ref{Name: "HEAD", Target: target}))
	}
	for _, name := range []string{"refs/heads/x", "refs/tags/t", "refs/stash/top", "refs/stash/x", "refs/heads/main"} {
		wantIll(t, name+" with a Target", refer(api.Ref{Name: name, Target: "refs/heads/b"}))
		wantIll(t, name+" isn't there", refer(api.Ref{Name: name, Id: api.Id{9}}))
		for _, id := range []api.Id{a, root, idOf(tag(api.Commit, other)), other} {
			wanted := strings.HasPrefix(name, "refs/tags/") || id == other
			if wantFsck(t, name, refer(api.Ref{Name: name, Id: id})) != wanted {
				t.Errorf("%s at %x: all is well: %v", name, id[:4], !wanted)
			}
		}
	}
	gone := referring(refer(api.Ref{Name: "refs/tags/t", Id: api.Id{9}}), api.Ref{Name: "refs/tags/t"})
	wantIll(t, "a note's id isn't there", gone)
	l := file("n", "none", 0)
	wantIll(t, "a slot's id isn't there", indexed(files, l))
	wantWell(t, "a slot's id is all 0", indexed(files, api.Slot{Path: "n", Mode: api.ModeFile}))
	wantWell(t, "a slot's id is a tree", indexed(files, api.Slot{Path: "n", Mode: api.ModeFile, Id: root}))
	wantWell(t, "seq", having(files, "seq", seqText("pick", other, other, a)))
	wantWell(t, "seq with all 0", having(files, "seq", seqText("pick", api.Id{}, api.Id{})))
	wantIll(t, "seq's id isn't there", having(files, "seq", seqText("pick", other, api.Id{9})))
	wantIll(t, "seq's beginning isn't there", having(files, "seq", seqText("pick", api.Id{9}, other)))
	wantIll(t, "seq isn't in form", having(files, "seq", seqText("pick", other)))
	wantIll(t, "seq is of another word", having(files, "seq", seqText("stash", other, other)))
}

// P26.4, P9: files by chance changed by chance, against the chapter's words.
func TestFsckByChance(t *testing.T) {
	r := rand.New(rand.NewSource(26))
	files, _ := rich()
	packed, _, _ := packedUp(files)
	counts := map[bool]int{}
	for range 500 {
		in := [][]api.File{files, packed, patched(files, filesOf(packed))}[r.Intn(3)]
		for range 1 + r.Intn(2) {
			f := in[r.Intn(len(in))]
			switch r.Intn(6) {
			case 0, 1:
				if len(f.Data) > 0 {
					in = turned(in, f.Path, r.Intn(len(f.Data)))
				}
			case 2:
				in = without(in, f.Path)
			case 3:
				in = having(in, f.Path, in[r.Intn(len(in))].Data)
			case 4:
				in = having(in, []string{"objects/x", "seq", "work/x", "x", "reftable/x", "objects/pack/y.idx"}[r.Intn(6)], f.Data)
			case 5:
				list, _ := refs.List(in)
				if len(list) > 0 {
					in = referring(in, api.Ref{Name: "refs/heads/y", Id: list[r.Intn(len(list))].Id})
				}
			}
			if len(in) == 0 {
				in = files
			}
		}
		counts[wantFsck(t, "by chance", in)]++
		wantRoots(t, "by chance", in)
		if roots, e := plainRoots(in); e == api.OK && r.Intn(3) == 0 {
			wantReach(t, "by chance", in, roots...)
			wantGc(t, "by chance", in, 30, r.Intn(30))
		}
	}
	if counts[true] < 20 || counts[false] < 200 {
		t.Errorf("all is well: %v", counts)
	}
}

// P9: one thing that is wrong doesn't become more problems by what leads to it.
func TestFsckFew(t *testing.T) {
	files, other := rich()
	gone := without(files, place(other))
	few := len(maint.Fsck(gone))
	if got := maint.Fsck(stored(gone, commit(idOf(tree()), other), commit(idOf(tree()), other, other), tree())); few == 0 || len(got) != few {
		t.Errorf("with others that lead to it: %v, there were %d", got, few)
	}
}
