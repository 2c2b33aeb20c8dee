package loose_test

import (
	"bytes"
	"encoding/base64"
	"encoding/hex"
	"slices"
	"strings"
	"testing"

	"codicil/api"
	"codicil/loose"
)

// P13.1, P13.2: objects are got at their places, among whatever files, and have the id that was asked (P4).
func TestGet(t *testing.T) {
	var files []api.File
	for _, o := range samples() {
		files = append(files, file(placeOf(idOf(o)), pack(t, o)))
	}
	files = append(files, file("a", []byte("x")), file("objects/00", nil), file("objects/pack/pack-1.pack", nil), file("z", nil))
	slices.SortFunc(files, func(a, b api.File) int { return strings.Compare(a.Path, b.Path) })
	files = slices.CompactFunc(files, func(a, b api.File) bool { return a.Path == b.Path })
	for _, o := range samples() {
		got, e := loose.Get(files, idOf(o))
		wantObject(t, "Get", got, e, o)
		if idOf(got) != idOf(o) {
			t.Error("Get answers an object of another id")
		}
	}
	got, e := loose.Get(files, api.Id{1})
	wantNone(t, "an id that there isn't", got, e, api.ErrNone)
	got, e = loose.Get(nil, idOf(blob("abc")))
	wantNone(t, "Get of no files", got, e, api.ErrNone)
	got, e = loose.Get([]api.File{}, api.Id{})
	wantNone(t, "Get of an empty list", got, e, api.ErrNone)
}

// P13.1, P13.2: what stands at a place and isn't the object of that id.
func TestGetRefused(t *testing.T) {
	id := idOf(blob("abc"))
	right := pack(t, blob("abc"))
	turned := bytes.Clone(right)
	turned[len(turned)-1] ^= 1
	for _, x := range []struct {
		what   string
		data   []byte
		wanted api.Errno
	}{
		{"no bytes", nil, api.ErrShort},
		{"no stream", []byte("blob 3\x00abc"), api.ErrForm},
		{"a stream that is cut", right[:len(right)-1], api.ErrShort},
		{"a turned sum", turned, api.ErrSum},
		{"a byte behind", append(bytes.Clone(right), 0), api.ErrForm},
		{"no header", wrap(t, []byte("blub 3\x00abc"), 2), api.ErrForm},
		{"a nought ahead", wrap(t, []byte("blob 03\x00abc"), 2), api.ErrForm},
		{"too much", squeezed(make([]byte, api.MaxData+1), 9), api.ErrLimit},
		{"another object", pack(t, blob("abd")), api.ErrSum},
		{"an object of another kind", pack(t, api.Object{Kind: api.Tag, Data: []byte("abc")}), api.ErrSum},
		{"an object without bytes", pack(t, blob("")), api.ErrSum},
	} {
		o, e := loose.Get([]api.File{file(placeOf(id), x.data)}, id)
		wantNone(t, "Get of "+x.what, o, e, x.wanted)
	}
	o, e := loose.Get([]api.File{file(placeOf(api.Id{}), right)}, api.Id{})
	wantNone(t, "Get of the id that none has", o, e, api.ErrSum)
	for _, way := range []int{0, 1} {
		o, e := loose.Get([]api.File{file(placeOf(id), wrap(t, []byte("blob 3\x00abc"), way))}, id)
		wantObject(t, "Get of another way", o, e, blob("abc"))
	}
}

// P13.1: files that are not in order, whatever is asked.
func TestOutOfOrder(t *testing.T) {
	id := idOf(blob("abc"))
	for what, files := range outOfOrder(file(placeOf(id), pack(t, blob("abc")))) {
		for _, asked := range []api.Id{id, {}, idOf(blob("abd"))} {
			o, e := loose.Get(files, asked)
			wantNone(t, "Get of "+what, o, e, api.ErrForm)
		}
		if ids, e := loose.Ids(files); len(ids) != 0 || e != api.ErrForm {
			t.Errorf("Ids of %s: %d ids, error %d, wanted ErrForm alone", what, len(ids), e)
		}
	}
}

// P13.1: each id whose place has a file, of whatever bytes, rising.
func TestIds(t *testing.T) {
	ids, e := loose.Ids(nil)
	wantIds(t, "Ids of no files", ids, e)
	var wanted []api.Id
	for i := range 256 {
		wanted = append(wanted, api.Id{byte(i), byte(i)}, api.Id{byte(i), 0xff, 31: byte(i)})
	}
	wanted = append(wanted, api.Id{}, api.Id{31: 1}, api.Id{31: 255}, api.Id{30: 1})
	slices.SortFunc(wanted, func(a, b api.Id) int { return bytes.Compare(a[:], b[:]) })
	wanted = slices.Compact(wanted)
	var files []api.File
	for i, id := range wanted {
		files = append(files, file(placeOf(id), [][]byte{nil, []byte("x"), pack(t, blob("abc"))}[i%3]))
	}
	ids, e = loose.Ids(files)
	wantIds(t, "Ids", ids, e, wanted...)
	files = append([]api.File{file("a", nil), file("index", nil)}, append(files, file("objects/pack/a.pack", nil), file("seq", nil))...)
	ids, e = loose.Ids(files)
	wantIds(t, "Ids among others", ids, e, wanted...)
}

// P13.1: paths that are nearly a place.
func TestNearlyPlaces(t *testing.T) {
	id := idOf(blob("abc"))
	digits := hex.EncodeToString(id[:])
	first, rest := digits[:2], digits[2:]
	for _, path := range []string{
		"objects", "objects/" + first, "objects/" + digits, "objects/" + first + "/" + rest[:61], "objects/" + first + "/" + rest + "0", "objects/" + first + "/" + rest[:60] + "/" + rest[60:],
		"objects/" + first + "/" + rest + "/0", "objects/" + first + "/" + rest[:61] + "/" + rest[61:], "objects/" + digits[:1] + "/" + digits[1:], "objects/" + digits[:3] + "/" + digits[3:],
		"objects/" + digits[:1] + "/" + digits[1:2] + "/" + rest, "objects/0/" + first + "/" + rest, "objects/" + first + "/0/" + rest, "a/objects/" + first + "/" + rest, "objects/objects/" + first + "/" + rest,
		"Objects/" + first + "/" + rest, "object/" + first + "/" + rest, "objectss/" + first + "/" + rest, "objects" + first + "/" + rest, "objects0/" + first + "/" + rest, first + "/" + rest, digits,
		"objects/" + strings.ToUpper(first) + "/" + strings.ToUpper(rest), "objects/" + first + "/" + strings.ToUpper(rest), "objects/AB/" + rest, "objects/" + first + "/" + "g" + rest[1:], "objects/0g/" + rest, "objects/" + first + "/" + rest[:61] + " ",
		"objects/ 0/" + rest, "objects/+1/" + rest, "objects/0x/" + rest, "objects/" + first + "/" + rest[:61] + "\n", "objects/" + first + "." + rest, "objects." + first + "/" + rest,
	} {
		files := []api.File{file(path, pack(t, blob("abc")))}
		ids, e := loose.Ids(files)
		wantIds(t, "Ids of "+path, ids, e)
		o, e := loose.Get(files, id)
		wantNone(t, "Get of "+path, o, e, api.ErrNone)
	}
}

// 'Memory': Get and Ids change nothing, and their answers are new.
func TestFilesMemory(t *testing.T) {
	o := blob("abcdefgh")
	id, was := idOf(o), pack(t, o)
	files := append(make([]api.File, 0, 9), file(placeOf(id), roomy(was)), file("z", roomy([]byte("z"))))
	spare := files[2:3]
	spare[0] = file("spare", nil)
	first, _ := loose.Get(files, id)
	second, _ := loose.Get(files, id)
	ids, _ := loose.Ids(files)
	again, _ := loose.Ids(files)
	if len(files) != 2 || files[0].Path != placeOf(id) || files[1].Path != "z" || spare[0].Path != "spare" {
		t.Error("the list is changed")
	}
	wantRoomy(t, "Get", files[0].Data, was)
	wantRoomy(t, "Get", files[1].Data, []byte("z"))
	scratch(second.Data)
	wantRoomy(t, "who writes over Get's answer", files[0].Data, was)
	for i := range again[:cap(again)] {
		again[:cap(again)][i] = api.Id{0x5a}
	}
	scratch(files[0].Data)
	wantObject(t, "Get's answer", first, api.OK, o)
	wantIds(t, "Ids's answer", ids, api.OK, id)
}

// Objects that Git 2.39.5 wrote, by their ids.
func gitObjects() map[string]string {
	return map[string]string{
		"002d09b390dacb2fa34dd0dc39c0d4692f536a6715e186b55d84ea6f7a15fff3": "eAEBWQCm/3RyZWUgODEAMTAwNjQ0IGEALPjYPZ7ilUOzSodydCH97Lfj86GD0zdjkCXeV22567Q0MDAwMCBkANwA1dip+U5Ldj4wCfCFo7eFvdWx1s9gJFpCSFqtxsZPvakpaw==",
		"0b394add964064504338b0042dc7d23fabd7ee326b33d8b02257fe81ec530bed": "eAEtjMsKwjAQAD3nK/buZZPNa0FEPyXb3RSlpVKC4N9bwbkMc5nRZvCEp02eNg3okYRVIlOuNVFRzZrNpDaN1imYJGHOpEcGM+6ci/jSA4eITMmNz8tg2tb1Mdw43m//02w73OHSbnIFX/APnNEjOrc0scV9Ad7dJqM=",
		"2cf8d83d9ee29543b34a87727421fdecb7e3f3a183d337639025de576db9ebb4": "eAFLyslPUjBjyEjNycnnAgAdxQQU",
		"f43b9db493688537dd6d6eeb8ad4ef32eb5b9963dd4e2ee9f967b17f29240935": "eAF9zTsKQjEQQFHrrGJ6m5l8X0BElzKZD1o8A4+4f0GsvfWBK3Pfnwsox9M6zAAxKvaROirLiM4pq6JK6oKaa49eUuXaqBhtdZSiWzau3piKu6fA7/WYB9zhwrdxBWr4C85IiEG+w2V/SJgvCx/5syjr",
	}
}

// P13.1, P3: files that Git wrote are objects of the kinds that Git says.
func TestGitObjects(t *testing.T) {
	var kinds []api.Kind
	for digits, text := range gitObjects() {
		p, err := base64.StdEncoding.DecodeString(text)
		if err != nil {
			t.Fatal(err)
		}
		id := api.Id{}
		hex.Decode(id[:], []byte(digits))
		files := []api.File{file("objects/"+digits[:2]+"/"+digits[2:], p)}
		o, e := loose.Get(files, id)
		wantObject(t, "Get of Git's file", o, e, o)
		if idOf(o) != id {
			t.Errorf("%s: another object", digits)
		}
		ids, e := loose.Ids(files)
		wantIds(t, "Ids of Git's file", ids, e, id)
		kinds = append(kinds, o.Kind)
		if o.Kind == api.Blob && string(o.Data) != "hello\n" {
			t.Errorf("the blob is %q", o.Data)
		}
	}
	slices.Sort(kinds)
	if !slices.Equal(kinds, []api.Kind{api.Commit, api.Tree, api.Blob, api.Tag}) {
		t.Errorf("the kinds are %v", kinds)
	}
}
