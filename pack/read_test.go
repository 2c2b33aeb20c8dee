package pack_test

import (
	"bytes"
	"math/rand"
	"slices"
	"strconv"
	"testing"

	"codicil/api"
	"codicil/delta"
	"codicil/pack"
)

// made answers a delta from one text to another.
func made(from, to string) []byte {
	d, e := delta.Make([]byte(from), []byte(to))
	if e != api.OK {
		panic("Make: error " + strconv.Itoa(int(e)))
	}
	return d
}

// toText answers an item of the kind 7 from the blob of one text to another.
func toText(from, to string) pack.Item { return onId(blobId(from), made(from, to)) }

// P9.2: the chapter's second example.
func TestReadExamples(t *testing.T) {
	wantRead(t, "abc, abcxy", mustWrite(t, []pack.Item{object(3, "abc"), onSpan(0, made("abc", "abcxy"))}, 0), "abc", "abcxy")
	wantNoRead(t, "an id that there isn't", mustWrite(t, []pack.Item{toText("abc", "x")}, 0), api.ErrNone)
	wantNoRead(t, "each the base of the other", mustWrite(t, []pack.Item{toText("a", "b"), toText("b", "a")}, 0), api.ErrNone)
	wantNoRead(t, "its own base", mustWrite(t, []pack.Item{toText("a", "a")}, 0), api.ErrNone)
	wantRead(t, "each the base of the other, and one of them as an object", mustWrite(t, []pack.Item{toText("a", "b"), toText("b", "a"), object(3, "a")}, 0), "b", "a", "a")
}

// P9.2: chains by span and by id, both at once, with bases ahead and behind.
func TestReadChains(t *testing.T) {
	one, two, three := toText("a", "bb"), toText("bb", "ccc"), toText("ccc", "dddd")
	wantRead(t, "a chain by span", mustWrite(t, []pack.Item{object(3, "a"), onSpan(0, one.Data), onSpan(1, two.Data), onSpan(2, three.Data)}, 1), "a", "bb", "ccc", "dddd")
	wantRead(t, "two on one base by span", mustWrite(t, []pack.Item{object(3, "a"), onSpan(0, one.Data), onSpan(0, made("a", "z"))}, 1), "a", "bb", "z")
	wantRead(t, "a chain by id", mustWrite(t, []pack.Item{object(3, "a"), one, two, three}, 1), "a", "bb", "ccc", "dddd")
	wantRead(t, "a chain by id, backwards", mustWrite(t, []pack.Item{three, two, one, object(3, "a")}, 1), "dddd", "ccc", "bb", "a")
	wantRead(t, "a chain by id and span", mustWrite(t, []pack.Item{two, onSpan(0, three.Data), object(3, "a"), onSpan(2, one.Data)}, 1), "ccc", "dddd", "a", "bb")
	for _, places := range [][]int{{0, 1, 2, 3}, {3, 1, 0, 2}, {1, 3, 2, 0}, {2, 0, 3, 1}, {1, 0, 2, 3}} {
		items, texts := []pack.Item{object(3, "a"), one, two, three}, []string{"a", "bb", "ccc", "dddd"}
		var l []pack.Item
		var wanted []string
		for _, place := range places {
			l, wanted = append(l, items[place]), append(wanted, texts[place])
		}
		wantRead(t, "a chain in another order", mustWrite(t, l, 0), wanted...)
	}
}

// P9.2: an object has its id, its place and its Crc; a delta's result has the kind of its chain's lowest base.
func TestReadKinds(t *testing.T) {
	for kind := 1; kind <= 4; kind++ {
		items := []pack.Item{
			object(kind, "a"), onSpan(0, made("a", "b")), onSpan(1, made("b", "c")), onId(idOf(kind, []byte("c")), made("c", "d")), onId(idOf(kind, []byte("b")), made("b", "")),
			object(1+kind%4, "a"),
		}
		p := mustWrite(t, items, 2)
		pieces, _ := pack.Pieces(p)
		l, e := pack.Read(p)
		if e != api.OK || len(l) != len(items) {
			t.Fatalf("kind %d: %d objects, error %d", kind, len(l), e)
		}
		for i, text := range []string{"a", "b", "c", "d", "", "a"} {
			k := kind
			if i == 5 {
				k = 1 + kind%4
			}
			x := l[i]
			if int(x.Object.Kind) != k || string(x.Object.Data) != text || x.Id != idOf(k, []byte(text)) || x.At != pieces[i].At || x.Crc != pieces[i].Crc {
				t.Errorf("kind %d, the object %d: %+v", kind, i, x)
			}
		}
		// The same text of another kind has another id: it is no base.
		other := []pack.Item{object(kind, "a"), onId(idOf(1+kind%4, []byte("a")), made("a", "b"))}
		wantNoRead(t, "a base of another kind", mustWrite(t, other, 0), api.ErrNone)
	}
}

// text answers the i-th text of a long chain.
func text(i int) string { return "the text " + strconv.Itoa(i) }

// chain answers a blob and n deltas one on another, by id.
func chain(n int) []pack.Item {
	items := []pack.Item{object(3, text(0))}
	for i := range n {
		items = append(items, toText(text(i), text(i+1)))
	}
	return items
}

// P9.2: a depth of MaxDepth is read, one more isn't; by id, by span and both, in either order.
func TestReadDepth(t *testing.T) {
	for _, n := range []int{1, 2, 48, 49, 50, 51, 52, 60} {
		byId := chain(n)
		bySpan := slices.Clone(byId)
		both := slices.Clone(byId)
		for i := 1; i <= n; i++ {
			bySpan[i] = onSpan(i-1, byId[i].Data)
			if i%3 == 0 {
				both[i] = bySpan[i]
			}
		}
		backwards := slices.Clone(byId)
		slices.Reverse(backwards)
		for what, items := range map[string][]pack.Item{"by id": byId, "by span": bySpan, "both": both, "backwards": backwards} {
			p := mustWrite(t, items, 0)
			if n > api.MaxDepth {
				wanted := api.ErrLimit
				if what == "backwards" && n > api.MaxDepth+1 {
					wanted = api.ErrNone // the first by place stands on one that isn't told either
				}
				wantNoRead(t, "a chain too deep, "+what, p, wanted)
				wantPlain(t, what, p)
				continue
			}
			l, e := pack.Read(p)
			if e != api.OK || len(l) != n+1 {
				t.Errorf("a chain of %d, %s: %d objects, error %d", n, what, len(l), e)
			}
			wantPlain(t, what, p)
		}
	}
	// Of items beyond MaxDepth and one the first hasn't its base told.
	p := mustWrite(t, append([]pack.Item{toText(text(51), text(52))}, chain(51)...), 0)
	wantNoRead(t, "two beyond MaxDepth, the deeper one ahead", p, api.ErrNone)
	p = mustWrite(t, append(chain(51), toText(text(51), text(52))), 0)
	wantNoRead(t, "two beyond MaxDepth, the deeper one behind", p, api.ErrLimit)
}

// P9.2: of two items of one id the first by place that is told by then is the base.
func TestReadTwoOfOneId(t *testing.T) {
	wantRead(t, "two blobs of one id", mustWrite(t, []pack.Item{object(3, "a"), object(3, "a"), toText("a", "b")}, 0), "a", "a", "b")
	wantRead(t, "an object and a delta of one id", mustWrite(t, []pack.Item{toText("a", "b"), object(3, "a"), object(3, "b"), toText("b", "c")}, 0), "b", "a", "b", "c")
	deep := chain(50)
	last := toText(text(50), "last")
	shallow := object(3, text(50))
	texts := func(ahead string, n int, behind ...string) []string {
		var l []string
		if ahead != "" {
			l = append(l, ahead)
		}
		for i := range n {
			l = append(l, text(i))
		}
		return append(l, behind...)
	}
	// The deep one is the first by place: there is no other base, though the same object stands behind it.
	wantNoRead(t, "the deep one ahead", mustWrite(t, append(slices.Clone(deep), shallow, last), 0), api.ErrLimit)
	wantRead(t, "the object ahead", mustWrite(t, append(append([]pack.Item{shallow}, deep...), last), 0), texts(text(50), 51, "last")...)
	// Tried ahead of the deep one, when the object is told already only in the next round: the deep one is the first by place then.
	wantNoRead(t, "tried ahead of both, the deep one ahead", mustWrite(t, append(append([]pack.Item{last}, deep...), shallow), 0), api.ErrLimit)
	wantRead(t, "tried ahead of both, the object ahead", mustWrite(t, append([]pack.Item{last, shallow}, deep...), 0), append([]string{"last"}, texts(text(50), 51)...)...)
	// Tried between: by then only the object is told, although the deep one is ahead of it by place, but told later.
	backwards := slices.Clone(deep)
	slices.Reverse(backwards)
	wantRead(t, "the deep one ahead, but told later", mustWrite(t, append(backwards, shallow, last), 0), func() []string {
		l := texts("", 51)
		slices.Reverse(l)
		return append(l, text(50), "last")
	}()...)
}

// P9.2: an item that was beyond MaxDepth in one round is tried again, and told once an earlier item of its base's id is.
func TestReadTriedAgain(t *testing.T) {
	// The first item is told in the second round only, its base stands behind: but then it is the first of that id.
	items := append([]pack.Item{toText("behind", text(50))}, chain(50)...)
	items = append(items, toText(text(50), "last"), object(3, "behind"))
	p := mustWrite(t, items, 0)
	l, e := pack.Read(p)
	if e != api.OK || len(l) != len(items) || string(l[52].Object.Data) != "last" {
		t.Errorf("an item beyond MaxDepth isn't tried again: %d objects, error %d", len(l), e)
	}
	wantPlain(t, "tried again", p)
	// And by span of such an item.
	items = append(items, onSpan(52, made("last", "beyond")))
	p = mustWrite(t, items, 0)
	if l, e := pack.Read(p); e != api.OK || string(l[54].Object.Data) != "beyond" {
		t.Errorf("an item on one that was told later isn't tried again: error %d", e)
	}
	wantPlain(t, "tried again", p)
}

// P9.2: deltas that can't be applied, with Apply's error.
func TestReadNotApplied(t *testing.T) {
	for _, x := range []struct {
		what   string
		d      []byte
		wanted api.Errno
	}{
		{"no byte", nil, api.ErrShort}, {"one size", []byte{3}, api.ErrShort}, {"another base's count", []byte{4, 0}, api.ErrForm}, {"the instruction 0", []byte{3, 1, 0}, api.ErrForm},
		{"a copy cut short", []byte{3, 2, 0x91, 2}, api.ErrShort}, {"less put out", []byte{3, 2}, api.ErrForm}, {"MaxData and one more", []byte{3, 0x81, 0x80, 0x40}, api.ErrLimit},
		{"a size of 2^64", []byte{0x80, 0x80, 0x80, 0x80, 0x80, 0x80, 0x80, 0x80, 0x80, 2}, api.ErrLimit},
	} {
		for name, items := range map[string][]pack.Item{
			"by span": {object(3, "abc"), onSpan(0, x.d)}, "by id": {object(3, "abc"), onId(blobId("abc"), x.d)}, "by id, ahead": {onId(blobId("abc"), x.d), object(3, "abc")},
			"with one on it": {object(3, "abc"), onSpan(0, x.d), onSpan(1, made("x", "y")), object(3, "z")},
		} {
			p := mustWrite(t, items, 0)
			wantNoRead(t, x.what+", "+name, p, x.wanted)
			if l, e := pack.Pieces(p); e != api.OK || len(l) != len(items) {
				t.Errorf("%s, %s: Pieces: error %d", x.what, name, e)
			}
		}
	}
	most := []byte{3, 0x80, 0x80, 0x40, 1, 'x'}
	wantNoRead(t, "MaxData, of which less is put out", mustWrite(t, []pack.Item{object(3, "abc"), onSpan(0, most)}, 0), api.ErrForm)
	whole := make([]byte, api.MaxData)
	self, _ := delta.Make(whole, whole)
	l, e := pack.Read(mustWrite(t, []pack.Item{{Kind: 3, Data: whole}, onSpan(0, self)}, 0))
	if e != api.OK || !bytes.Equal(l[1].Object.Data, whole) {
		t.Errorf("a delta to MaxData bytes: error %d", e)
	}
}

// P9.2: of several items with errors that of the first by place, with which its last try ended.
func TestReadTwoErrors(t *testing.T) {
	none, form, short := toText("none", "x"), onId(blobId("abc"), []byte{4, 0}), onId(blobId("abc"), nil)
	abc := object(3, "abc")
	for _, x := range []struct {
		items  []pack.Item
		wanted api.Errno
	}{
		{[]pack.Item{abc, none, form}, api.ErrNone}, {[]pack.Item{abc, form, none}, api.ErrForm}, {[]pack.Item{abc, short, form}, api.ErrShort}, {[]pack.Item{abc, form, short}, api.ErrForm},
		{[]pack.Item{none, abc, form}, api.ErrNone}, {[]pack.Item{none, form, abc}, api.ErrNone},
		// The first try of these ended with ErrNone, but not the last one.
		{[]pack.Item{form, abc, none}, api.ErrForm}, {[]pack.Item{form, none, abc}, api.ErrForm}, {[]pack.Item{short, form, abc}, api.ErrShort},
		// On an item that isn't told none is.
		{[]pack.Item{abc, form, onSpan(1, nil)}, api.ErrForm}, {[]pack.Item{onId(blobId("y"), nil), abc, form, onSpan(2, made("x", "y"))}, api.ErrNone},
	} {
		p := mustWrite(t, x.items, 0)
		wantNoRead(t, "items with errors", p, x.wanted)
		wantPlain(t, "items with errors", p)
	}
}

// storyOf answers items by chance that tell texts of one another, by id and by span, with errors here and there.
func storyOf(r *rand.Rand, texts int) []pack.Item {
	var items []pack.Item
	told := []string{}
	for range 1 + r.Intn(3*texts) {
		i := r.Intn(texts)
		from, to := text(i), text(i+1)
		if r.Intn(4) == 0 {
			to = text(r.Intn(texts))
		}
		item := toText(from, to)
		if place := slices.Index(told, from); place >= 0 && r.Intn(2) == 0 {
			item = onSpan(place, item.Data)
		}
		if r.Intn(6) == 0 {
			item = object(3, to)
		}
		if r.Intn(60) == 0 {
			item.Data = noise(r.Int63(), r.Intn(5), 20)
		}
		items, told = append(items, item), append(told, to)
	}
	return items
}

// P9.2: packs by chance, in which most texts stand more than once and bases ahead and behind, are as in the plain model.
func TestReadByChance(t *testing.T) {
	r := rand.New(rand.NewSource(6))
	met := map[api.Errno]int{}
	for range 1500 {
		met[wantPlain(t, "a story", mustWrite(t, storyOf(r, 1+r.Intn(8)), 0))]++
	}
	// Long chains in an order by chance, with short cuts.
	for range 150 {
		items := chain(45 + r.Intn(12))
		for range r.Intn(4) {
			to := r.Intn(len(items))
			items = append(items, toText(text(r.Intn(1+r.Intn(len(items)))), text(to)))
			if r.Intn(3) == 0 {
				items = append(items, object(3, text(to)))
			}
		}
		for range r.Intn(len(items)) {
			i, j := r.Intn(len(items)), r.Intn(len(items))
			items[i], items[j] = items[j], items[i]
		}
		if r.Intn(10) == 0 {
			items = slices.DeleteFunc(items, func(item pack.Item) bool { return item.Kind == 3 })
		}
		met[wantPlain(t, "a long chain", mustWrite(t, items, 0))]++
	}
	for _, e := range []api.Errno{api.OK, api.ErrForm, api.ErrShort, api.ErrNone, api.ErrLimit} {
		if met[e] < 3 {
			t.Errorf("error %d was met %d times", e, met[e])
		}
	}
}

// P9.2: MaxObjects items, most of which are told in late rounds.
func TestReadMany(t *testing.T) {
	var items []pack.Item
	for i := range api.MaxObjects / 32 {
		name := "chain " + strconv.Itoa(i) + " "
		for j := 31; j > 0; j-- {
			items = append(items, toText(name+text(j-1), name+text(j)))
		}
		items = append(items, object(3, name+text(0)))
	}
	l, e := pack.Read(mustWrite(t, items, 0))
	if e != api.OK || len(l) != api.MaxObjects {
		t.Fatalf("%d objects, error %d", len(l), e)
	}
	for i, x := range l {
		if wanted := "chain " + strconv.Itoa(i/32) + " " + text(31-i%32); string(x.Object.Data) != wanted {
			t.Fatalf("the object %d: %q, wanted %q", i, x.Object.Data, wanted)
		}
	}
}

// The rule 'Memory': Read neither changes nor keeps what is handed in, nor reads its spare room; no two objects share memory.
func TestReadMemory(t *testing.T) {
	same := []byte{3, 3, 0x90, 3}
	items := []pack.Item{object(3, "abc"), onSpan(0, same), onId(blobId("abc"), same), object(3, "abc"), onSpan(1, made("abc", "abcabc")), toText("z", "y"), object(3, "z")}
	good := mustWrite(t, items, 0)
	p := roomy(good)
	first, e := pack.Read(p)
	wantRoomy(t, "Read", p, good)
	second, _ := pack.Read(p)
	scratch(p)
	wanted, _ := plainRead(good)
	if e != api.OK || !sameFound(first, wanted) {
		t.Fatalf("Read's answer shares memory with its argument, or hangs on spare room")
	}
	for i := range second {
		scratch(second[i].Object.Data)
		for j := range second {
			if j > i && !bytes.Equal(second[j].Object.Data, wanted[j].Object.Data) {
				t.Errorf("the objects %d and %d share memory", i, j)
			}
		}
	}
	for i := range second[:cap(second)] {
		second[:cap(second)][i] = pack.Found{}
	}
	if !sameFound(first, wanted) {
		t.Errorf("two answers of Read share memory")
	}
}

// P2: the same call answers the same once more, whatever was called between.
func TestSameAgain(t *testing.T) {
	for range 3 {
		for _, p := range somePacks(t) {
			wantPlain(t, "again", p)
		}
	}
}
