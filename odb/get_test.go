package odb_test

import (
	"bytes"
	"encoding/base64"
	"encoding/hex"
	"math"
	"strings"
	"testing"

	"codicil/api"
	"codicil/delta"
	"codicil/odb"
	"codicil/pack"
	"codicil/packidx"
)

// several are objects of each kind.
func several() []api.Object {
	list := blobs("", "abc", "abd", strings.Repeat("a line\n", 300))
	for kind := api.Commit; kind <= api.Tag; kind++ {
		list = append(list, object(kind, "x"), object(kind, "\x00\xff"))
	}
	return list
}

// P14.1, P4: objects with files of their own, in a pack, and both at once.
func TestGet(t *testing.T) {
	all := several()
	loosely, inOne := own(all...), inPack("a", all...)
	inTwo := join(inPack("a", all[:4]...), inPack("b", all[4:]...))
	mixed := join(own(all[:3]...), inPack("a", all[3:7]...), inPack("b", all[6:]...), []api.File{file("a", "x"), file("objects/x", "y"), file("z", "")})
	for _, o := range all {
		wantObject(t, "loose", loosely, o)
		wantObject(t, "in one pack", inOne, o)
		wantObject(t, "in two packs", inTwo, o)
		wantObject(t, "here and there", mixed, o)
	}
	for _, files := range [][]api.File{nil, {}, loosely, inOne, inTwo, mixed} {
		for _, id := range []api.Id{{}, {1}, blobId("ab"), idOf(object(api.Tag, "abc"))} {
			wantNoObject(t, "an id that there isn't", files, id, api.ErrNone)
		}
	}
}

// P14.1: where the place of an id has a file, that counts alone, whatever packs have.
func TestGetOwnFileFirst(t *testing.T) {
	o := blob("abc")
	inPacks := inPack("a", o)
	right := own(o)[0]
	turned := bytes.Clone(right.Data)
	turned[len(turned)-1] ^= 1
	other := own(blob("other"))[0]
	for what, x := range map[string]struct {
		data   []byte
		wanted api.Errno
	}{
		"no bytes":       {nil, api.ErrShort},
		"no stream":      {[]byte("abc"), api.ErrForm},
		"a turned sum":   {turned, api.ErrSum},
		"a byte behind":  {append(bytes.Clone(right.Data), 0), api.ErrForm},
		"another object": {other.Data, api.ErrSum},
	} {
		wantNoObject(t, what, join([]api.File{{Path: right.Path, Data: x.data}}, inPacks), idOf(o), x.wanted)
	}
	broken := named("a", []byte("no pack"), inPacks[0].Data)
	wantObject(t, "a pack with an error", join(own(o), broken), o)
}

// P14.1: of two packs that have an id the first by paths counts.
func TestGetFirstPack(t *testing.T) {
	o := blob("abc")
	right := inPack("", o)
	index, p := right[0].Data, right[1].Data
	short := p[:40]
	for _, x := range []struct{ first, second string }{{"a", "b"}, {"a-b", "a"}, {"a.pack", "b"}, {"B", "a"}, {"pack-1", "pack-2"}, {"a", "a.pack"}, {"a+", "a"}} {
		wantObject(t, "two right packs", join(named(x.first, p, index), named(x.second, p, index)), o)
		wantObject(t, "the second pack has an error", join(named(x.first, p, index), named(x.second, short, index)), o)
		wantNoObject(t, "the first pack has an error", join(named(x.first, short, index), named(x.second, p, index)), idOf(o), api.ErrShort)
		elsewhere := []packidx.Row{{Id: idOf(o), At: 13}}
		wantNoObject(t, "the first row leads to nothing", join(named(x.first, p, indexed(elsewhere, p)), named(x.second, p, index)), idOf(o), api.ErrSum)
		wantObject(t, "the second row leads to nothing", join(named(x.first, p, index), named(x.second, p, indexed(elsewhere, p))), o)
		// Indices without that id, with an error or not there are passed over.
		wantObject(t, "the first index hasn't the id", join(named(x.first, p, indexed(nil, p)), named(x.second, p, index)), o)
		wantObject(t, "the first index isn't there", join(named(x.first, p, nil), named(x.second, p, index)), o)
		wantObject(t, "the first index is cut", join(named(x.first, p, index[:len(index)-1]), named(x.second, p, index)), o)
	}
}

// P14.1: a pack without an index that has the id is none.
func TestGetWithoutIndex(t *testing.T) {
	o := blob("abc")
	right := inPack("a", o)
	index, p := right[0].Data, right[1].Data
	turned := bytes.Clone(index)
	turned[len(turned)-1] ^= 1
	for what, files := range map[string][]api.File{
		"no index":                named("a", p, nil),
		"an index without bytes":  named("a", p, []byte{}),
		"an index that is cut":    named("a", p, index[:len(index)-1]),
		"an index with more":      named("a", p, append(bytes.Clone(index), 0)),
		"an index with a bad sum": named("a", p, turned),
		"no index at all":         named("a", p, p),
		"an index without rows":   named("a", p, indexed(nil, p)),
		"an index without a pack": right[:1],
		"an index of another one": {{Path: "objects/pack/b.idx", Data: index}, right[1]},
		"an index that is behind": {right[1], {Path: "objects/pack/a.pack.idx", Data: index}},
		"an index elsewhere":      {{Path: "objects/a.idx", Data: index}, right[1]},
	} {
		wantNoObject(t, what, join(files), idOf(o), api.ErrNone)
		wantIds(t, what, join(files))
	}
	others := named("a", p, indexed([]packidx.Row{{Id: api.Id{9}, At: 12}}, p))
	wantNoObject(t, "an index of others", others, idOf(o), api.ErrNone)
	wantIds(t, "an index of others", others, api.Id{9})
}

// P14.1: a pack that pack.Read refuses.
func TestGetRefusedPack(t *testing.T) {
	o := blob("abc")
	right := inPack("a", o)
	index, p := right[0].Data, right[1].Data
	turned := bytes.Clone(p)
	turned[len(turned)-1] ^= 1
	form := bytes.Clone(p)
	form[0] = 'p'
	lonely, _ := pack.Write([]pack.Item{{Kind: 3, Data: o.Data}, {Kind: 7, Base: api.Id{1}, Data: []byte{0, 0}}}, 0)
	for what, x := range map[string]struct {
		pack   []byte
		wanted api.Errno
	}{
		"no bytes":                 {nil, api.ErrShort},
		"a pack that is cut":       {p[:43], api.ErrShort},
		"another beginning":        {form, api.ErrForm},
		"a turned sum":             {turned, api.ErrSum},
		"a delta without its base": {lonely, api.ErrNone},
	} {
		wantNoObject(t, what, named("a", x.pack, index), idOf(o), x.wanted)
		wantIds(t, what, named("a", x.pack, index), idOf(o))
	}
}

// P14.1: a row that leads to another object or to none.
func TestGetRowLeadsAstray(t *testing.T) {
	p := packed(blobs("abc", "abd")...)
	rows := rowsOf(p)
	for what, at := range map[string]uint64{
		"another object": rows[1].At, "0": 0, "ahead": rows[0].At - 1, "within": rows[0].At + 1, "behind the last": rows[1].At + 1, "the pack's sum": uint64(len(p) - 32), "the pack's end": uint64(len(p)), "2^31": 1 << 31, "2^32": 1<<32 + rows[0].At, "2^63": 1<<63 + rows[0].At, "the greatest": math.MaxUint64,
	} {
		index := indexed([]packidx.Row{{Id: rows[0].Id, Crc: rows[0].Crc, At: at}, rows[1]}, p)
		wantNoObject(t, what, named("a", p, index), rows[0].Id, api.ErrSum)
		wantObject(t, what+", the other row", named("a", p, index), blob("abd"))
	}
	stranger := indexed([]packidx.Row{{Id: blobId("abx"), At: rows[0].At}}, p)
	wantNoObject(t, "an id that the pack hasn't", named("a", p, stranger), blobId("abx"), api.ErrSum)
	// Neither a row's Crc nor the pack's sum in its index is asked.
	index, _ := packidx.Build([]packidx.Row{{Id: rows[0].Id, Crc: rows[0].Crc + 1, At: rows[0].At}}, api.Id{7})
	wantObject(t, "another Crc", named("a", p, index), blob("abc"))
	// An object may stand in a pack twice.
	p = packed(blobs("abc", "abd", "abc")...)
	for i, row := range rowsOf(p) {
		wantObject(t, "twice in a pack", named("a", p, indexed([]packidx.Row{row}, p)), blob([]string{"abc", "abd", "abc"}[i]))
	}
}

// P14.1: deltas are objects, too.
func TestGetDeltas(t *testing.T) {
	one, two, three := blob(strings.Repeat("abc", 50)), blob(strings.Repeat("abc", 50)+"x"), blob("y"+strings.Repeat("abc", 50))
	first, _ := delta.Make(one.Data, two.Data)
	second, _ := delta.Make(two.Data, three.Data)
	p, _ := pack.Write([]pack.Item{{Kind: 7, Base: idOf(two), Data: second}, {Kind: 3, Data: one.Data}, {Kind: 6, Back: 1, Data: first}}, 2)
	files := named("a", p, indexed(rowsOf(p), p))
	for _, o := range []api.Object{one, two, three} {
		wantObject(t, "a delta", files, o)
	}
	wantIds(t, "deltas", files, idsOf(one, two, three)...)
}

// P14.1: paths that are nearly those of a pack file.
func TestNearlyPacks(t *testing.T) {
	o := blob("abc")
	right := inPack("", o)
	index, p := string(right[0].Data), string(right[1].Data)
	for _, name := range []string{"a", "pack-1", " ", "a b", ".pack", "a.pack", "a.idx", "....", ".gitt", ".hidden", "\xff", strings.Repeat("a", 95)} {
		wantObject(t, "the pack "+name, named(name, []byte(p), []byte(index)), o)
		if path, is := odb.IndexPath("objects/pack/" + name + ".pack"); path != "objects/pack/"+name+".idx" || !is {
			t.Errorf("the index of the pack %s: %q, %v", name, path, is)
		}
		wantIds(t, "the pack "+name, named(name, []byte(p), []byte(index)), idOf(o))
	}
	for _, x := range []struct{ pack, index string }{
		{"objects/pack/.pack", "objects/pack/.idx"}, {"objects/pack/..pack", "objects/pack/..idx"}, {"objects/pack/...pack", "objects/pack/...idx"}, {"objects/pack/.GIT.pack", "objects/pack/.GIT.idx"},
		{"objects/pack/a/b.pack", "objects/pack/a/b.idx"}, {"objects/pack/a/.pack", "objects/pack/a/.idx"}, {"objects/a.pack", "objects/a.idx"}, {"objects/packs/a.pack", "objects/packs/a.idx"}, {"pack/a.pack", "pack/a.idx"}, {"a.pack", "a.idx"}, {"a.pack", "objects/pack/a.idx"}, {"a/objects/pack/a.pack", "a/objects/pack/a.idx"},
		{"objects/pack/a.PACK", "objects/pack/a.idx"}, {"objects/pack/a.PACK", "objects/pack/a.IDX"}, {"objects/pack/a.pack", "objects/pack/a.IDX"}, {"objects/pack/a.pack", "objects/pack/a"}, {"objects/pack/apack", "objects/pack/aidx"}, {"objects/pack/a.pack.x", "objects/pack/a.idx"}, {"objects/pack/a", "objects/pack/a.idx"},
		{"objects/pack.pack", "objects/pack.idx"}, {"objects/Pack/a.pack", "objects/Pack/a.idx"}, {"objects/packa.pack", "objects/packa.idx"}, {"objects/pack/pack", "objects/pack/idx"}, {"objects/pack/a.pack/b", "objects/pack/a.idx"}, {"objects/pack/a.pack/b", "objects/pack/a.idx/b"},
	} {
		if path, is := odb.IndexPath(x.pack); is && path == x.index || !is && path != "" {
			t.Errorf("%s: the index %q, %v", x.pack, path, is)
		}
		files := join([]api.File{file(x.pack, p), file(x.index, index)})
		wantNoObject(t, x.pack+", "+x.index, files, idOf(o), api.ErrNone)
		wantIds(t, x.pack+", "+x.index, files)
	}
}

// P14.1: all ids, rising, each once.
func TestIds(t *testing.T) {
	all := several()
	ids := idsOf(all...)
	wantIds(t, "no files", nil)
	wantIds(t, "others", []api.File{file("a", ""), file("objects/b", "")})
	wantIds(t, "loose", own(all...), ids...)
	wantIds(t, "in one pack", inPack("a", all...), ids...)
	wantIds(t, "in two packs", join(inPack("a", all[:5]...), inPack("b", all[5:]...)), ids...)
	wantIds(t, "in two packs, some in both", join(inPack("a", all[:7]...), inPack("b", all[3:]...)), ids...)
	wantIds(t, "loose and in packs", join(own(all[:4]...), inPack("a", all[4:7]...), inPack("b", all[7:]...)), ids...)
	wantIds(t, "all everywhere", join(own(all...), inPack("a", all...), inPack("b", all...)), ids...)
	// Whatever bytes loose files and packs have; a row counts, wherever it leads.
	broken := own(all...)
	for i := range broken {
		broken[i].Data = nil
	}
	wantIds(t, "loose, of whatever bytes", broken, ids...)
	stray := []packidx.Row{{Id: api.Id{}, At: 1 << 40}, {Id: api.Id{31: 1}}, {Id: api.Id{255}}}
	wantIds(t, "rows", join(named("a", []byte("x"), indexed(stray, make([]byte, 32))), own(all[0])), api.Id{}, api.Id{31: 1}, api.Id{255}, ids[0])
	right := inPack("b", all[5:]...)
	wantIds(t, "one index has an error", join(named("a", nil, []byte("x")), right), ids[5:]...)
}

// P14.1: files that are not in order, at each of the two.
func TestGetOutOfOrder(t *testing.T) {
	o := blob("abc")
	for _, good := range []api.File{own(o)[0], inPack("a", o)[1]} {
		for what, files := range outOfOrder(good) {
			wantNoObject(t, what, files, idOf(o), api.ErrForm)
			wantNoObject(t, what, files, api.Id{}, api.ErrForm)
			if ids, e := odb.Ids(files); len(ids) != 0 || e != api.ErrForm {
				t.Errorf("Ids, %s: %d ids, error %d, wanted ErrForm alone", what, len(ids), e)
			}
		}
	}
}

// A pack that Git 2.39.5 wrote, with a delta, and the last 32 bytes of the index that it made of it.
const (
	gitPack = "UEFDSwAAAAIAAAAGlg14nH3MsW5DIQxA0Z2vYM9iY2ODVEXtpxiw1QzJq56I8vvt0Dl3Prr7dM/aNIi0BlfT2iLQS0yJ6cIBXDGQl41OYy0tKjSbC7I08DpqL+nHTn/sLNQCTB0bDtBq1Luz+d+hTBk9eBYy" +
		"7MpgvdBCMuHBAjKgQYgle+7v48xf+cM+xzWjwn/5AgiQ5nG/3/b2NyTt15F+AcKWOMKeCHicfco9DoMwDEDhPafw3sU/4ChShcpRYmwEA42Ewv3L0Jk3fnr9jAAaMZureeQogjR6Lk63CrGEBjmzLVxkIFVDlGor" +
		"Fhau682kqV59ayfM8K4fm4Ay/oMXEmJa2nHsvcfDkto30g+oLSSasAt4nA3OwQ0DMQwDwf9WY1KibBeUZxAg/T/uGthZYYomDJvDRQsJGRVqFDRoo4MuXljYuHDj4MEbH3ypRYl6k0U1FWqoTR3q0osWbfoVmw49" +
		"9KYPfckiIiZF3qGQIZsccpnF9/f/8ACwLBqQqQJ4nDM0MDAzMVFIZBDw/Jz/8uol25y5O4o9z50oWHS9o+1gcrF64jkTLQ0BzYMAXssRsKkCeJwzNDAwMzFRSGTgme7Pdv2gk47z+XmJ6o8qY4RO6Qh8yJ/fk1rS" +
		"YTHTx+wcAB7gD8JmgFR4nNvAuJpxwmoACKUCmchT1IOHZxgW6TUDw9cge3w2EnoEG8ywO30nE7Xr52ti"
	gitIndexEnd = "J4KUv6Lp9nl8IqtSPhsHBiV344MB+CMbeI7RWRDXE68="
)

// gitFiles answers that pack and its index, by their names.
func gitFiles(t *testing.T) []api.File {
	t.Helper()
	p, _ := base64.StdEncoding.DecodeString(gitPack)
	index := indexed(rowsOf(p), p)
	if got := base64.StdEncoding.EncodeToString(index[len(index)-32:]); got != gitIndexEnd {
		t.Fatalf("the index is another one than Git's: %s", got)
	}
	return named("pack-c853d48387671816e93503c3d7207b7c36127a041bccb03b7d2713b5ebe76b62", p, index)
}

// P14.1, P3: the objects of a pack that Git wrote.
func TestGitPack(t *testing.T) {
	files := gitFiles(t)
	ids, e := odb.Ids(files)
	if e != api.OK || len(ids) != 6 {
		t.Fatalf("Ids: %d, error %d", len(ids), e)
	}
	var all []api.Object
	for _, id := range ids {
		o, e := odb.Get(files, id)
		if e != api.OK || idOf(o) != id {
			t.Fatalf("Get(%x): error %d", id, e)
		}
		all = append(all, o)
	}
	var later api.Id
	hex.Decode(later[:], []byte("1049f36fe9d5d23d6c9db87349cec870a2d78886c163732761ce342a281029c1"))
	if o, _ := odb.Get(files, later); o.Kind != api.Blob || !strings.HasSuffix(string(o.Data), "\n59\n60\nmore\n") {
		t.Errorf("the blob ends with %q", o.Data)
	}
	behind := wantAlone(t, files, all...)
	for _, o := range all {
		wantObject(t, "behind Repack", behind, o)
	}
}
