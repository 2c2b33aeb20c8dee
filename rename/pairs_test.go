package rename_test

import (
	"fmt"
	"maps"
	"math"
	"math/rand"
	"slices"
	"strconv"
	"strings"
	"testing"

	"codicil/api"
	"codicil/rename"
)

// pair answers a pair.
func pair(from, to string, like int) rename.Pair {
	return rename.Pair{From: from, To: to, Like: like}
}

// wantMoved fails unless Pairs answers these of paths and texts told by turns, from files of their own and from a pack, and
// the chapter's words do.
func wantMoved(t *testing.T, what string, a, b []string, least int, wanted ...rename.Pair) {
	t.Helper()
	files := filesOf(a, b)
	wantPairs(t, what, files, slots(a...), slots(b...), least, wanted...)
	var list []api.Object
	for i := 1; i < len(a)+len(b); i += 2 {
		list = append(list, blob(slices.Concat(a, b)[i]))
	}
	wantPairs(t, what+", from a pack", packed(t, list...), slots(a...), slots(b...), least, wanted...)
	if plain := plainPairs(told(a), told(b), least); !slices.Equal(plain, wanted) {
		t.Errorf("by the chapter's words, %s, at least %d: %v", what, least, plain)
	}
}

// told answers texts by paths.
func told(l []string) map[string]string {
	all := map[string]string{}
	for i := 0; i < len(l); i += 2 {
		all[l[i]] = l[i+1]
	}
	return all
}

// numbered answers n lines, the first same ones of which are those of any other such text.
func numbered(word string, same, n int) string {
	text := ""
	for i := range n {
		if i < same {
			text += fmt.Sprintf("same %03d\n", i)
		} else {
			text += fmt.Sprintf("%4s %03d\n", word, i)
		}
	}
	return text
}

// P20.3: one file that moved, as it was or changed.
func TestPairsOfOne(t *testing.T) {
	text := numbered("a", 0, 100)
	wantMoved(t, "as it was", []string{"a", text}, []string{"b", text}, 100, pair("a", "b", 100))
	wantMoved(t, "as it was", []string{"x/y", ""}, []string{"a", ""}, 1, pair("x/y", "a", 100))
	wantMoved(t, "a line more", []string{"a", text}, []string{"b", text + "more\n"}, 50, pair("a", "b", 99))
	wantMoved(t, "half of it", []string{"a", numbered("a", 50, 100)}, []string{"b", numbered("b", 50, 100)}, 50, pair("a", "b", 50))
	wantMoved(t, "nothing", []string{"a", numbered("a", 0, 9)}, []string{"b", numbered("b", 0, 9)}, 1)
	wantMoved(t, "beside others", []string{"a", text, "s", "s", "t", "1"}, []string{"b", text, "s", "s", "t", "2"}, 50, pair("a", "b", 100))
}

// P20.3: what is below least is no pair, at the edges of least's range too.
func TestPairsLeast(t *testing.T) {
	a := []string{"a", numbered("a", 50, 100)}
	b := []string{"b", numbered("b", 50, 100)}
	for _, least := range []int{1, 2, 49, 50} {
		wantMoved(t, "Like 50", a, b, least, pair("a", "b", 50))
	}
	for _, least := range []int{51, 99, 100} {
		wantMoved(t, "Like 50", a, b, least)
	}
	one := []string{"b", numbered("b", 1, 100)}
	wantMoved(t, "Like 1", a, one, 1, pair("a", "b", 1))
	wantMoved(t, "Like 1", a, one, 2)
	none := []string{"b", numbered("b", 0, 100)}
	wantMoved(t, "Like 0", a, none, 1)
	near := []string{"b", a[1] + "x"}
	wantMoved(t, "Like 99", a, near, 99, pair("a", "b", 99))
	wantMoved(t, "Like 99", a, near, 100)
	for _, least := range []int{math.MinInt, -1, 0, 101, 256, 1 << 32, 1<<32 + 50, math.MaxInt} {
		files := filesOf(a, b)
		wantNoPairs(t, "least", files, slots(a...), slots(b...), least, api.ErrArg)
		wantNoPairs(t, "least, and no blobs", nil, slots(a...), slots(b...), least, api.ErrArg)
		wantNoPairs(t, "least, and no slots", files, nil, nil, least, api.ErrArg)
		for _, f := range faults() {
			wantNoPairs(t, "least, and "+f.what, files, f.make(nil), slots(b...), least, api.ErrArg)
			wantNoPairs(t, "least, and "+f.what, files, slots(a...), f.make(nil), least, api.ErrArg)
		}
	}
}

// P20.3: paths that are in both lists, with whatever blobs, are no question.
func TestPairsOfBoth(t *testing.T) {
	x, y := numbered("x", 0, 20), numbered("y", 0, 20)
	wantMoved(t, "equal lists", []string{"a", x, "b", y}, []string{"a", x, "b", y}, 1)
	wantMoved(t, "exchanged", []string{"a", x, "b", y}, []string{"a", y, "b", x}, 1)
	wantMoved(t, "a copy", []string{"a", x}, []string{"a", x, "b", x}, 1)
	wantMoved(t, "another one went", []string{"a", x, "b", x}, []string{"a", x}, 1)
	wantMoved(t, "moved over another", []string{"a", x, "b", y}, []string{"b", x}, 1)
	wantMoved(t, "moved, and another came there", []string{"a", x}, []string{"a", y, "b", x}, 1)
	wantMoved(t, "none", nil, nil, 1)
	wantMoved(t, "all went", []string{"a", x, "b", y}, nil, 1)
	wantMoved(t, "all came", nil, []string{"a", x, "b", y}, 1)
}

// P20.3: of several the greatest Like, then the least From, then the least To.
func TestPairsOrder(t *testing.T) {
	x := numbered("x", 0, 100)
	wantMoved(t, "one Like", []string{"a", x, "b", x}, []string{"c", x, "d", x}, 50, pair("a", "c", 100), pair("b", "d", 100))
	wantMoved(t, "one From", []string{"a", x}, []string{"b", x, "c", x}, 50, pair("a", "b", 100))
	wantMoved(t, "one To", []string{"a", x, "b", x}, []string{"c", x}, 50, pair("a", "c", 100))
	wantMoved(t, "three and two", []string{"a", x, "b", x, "c", x}, []string{"A", x, "z", x}, 50, pair("a", "A", 100), pair("b", "z", 100))
	// Likes below 100, all the same.
	like := func(n int) string { return x + strings.Repeat(string(rune('a'+n)), 20) + "\n" }
	p := rename.Like([]byte(like(0)), []byte(like(1)))
	wantMoved(t, "one Like", []string{"a", like(0), "b", like(1)}, []string{"c", like(2), "d", like(3)}, 50, pair("a", "c", p), pair("b", "d", p))
	wantMoved(t, "one Like, one From", []string{"b", like(0)}, []string{"a", like(2), "c", like(3)}, 50, pair("b", "a", p))
	wantMoved(t, "one Like, one To", []string{"a", like(0), "c", like(1)}, []string{"b", like(2)}, 50, pair("a", "b", p))
	// The greatest Like comes first, though others stand ahead of it.
	near, far := x[:len(x)*9/10], x[:len(x)/2]
	wantMoved(t, "a better From", []string{"a", far, "b", near}, []string{"c", x}, 50, pair("b", "c", 94))
	wantMoved(t, "a better To", []string{"a", x}, []string{"b", far, "c", near}, 50, pair("a", "c", 94))
	wantMoved(t, "what is left", []string{"a", far, "b", near}, []string{"c", x, "d", far + "d\n"}, 50, pair("b", "c", 94), pair("a", "d", 99))
	wantMoved(t, "the same comes first", []string{"a", near, "b", x}, []string{"c", x, "d", far}, 50, pair("b", "c", 100), pair("a", "d", 71))
}

// P20.3: the pairs are ordered by To.
func TestPairsByTo(t *testing.T) {
	var a, b []string
	var wanted []rename.Pair
	for i := range 20 {
		text := numbered(strconv.Itoa(i), 3, 30)
		a = append(a, fmt.Sprintf("from/%02d", i), text)
		to := fmt.Sprintf("to/%02d", (i*7)%20)
		if i%2 == 0 {
			b = append(b, to, text)
			wanted = append(wanted, pair(fmt.Sprintf("from/%02d", i), to, 100))
		} else {
			b = append(b, to, text+"more\n")
			wanted = append(wanted, pair(fmt.Sprintf("from/%02d", i), to, rename.Like([]byte(text), []byte(text+"more\n"))))
		}
	}
	slices.SortFunc(wanted, func(p, q rename.Pair) int { return strings.Compare(p.To, q.To) })
	wantMoved(t, "twenty", a, b, 50, wanted...)
	wantMoved(t, "by bytes", []string{"x", "1", "y", "2", "z", "3"}, []string{"a/b", "1", "a.b", "2", "A", "3"}, 1, pair("z", "A", 100), pair("y", "a.b", 100), pair("x", "a/b", 100))
}

// P20.3: which way Like is asked: from what went to what came.
func TestPairsOneWay(t *testing.T) {
	a, b := []string{"a", "x\nlonger\n"}, []string{"b", "longer\nx\n"}
	wantMoved(t, "one way", a, b, 50, pair("a", "b", 77))
	wantMoved(t, "the other way", []string{"a", b[1]}, []string{"b", a[1]}, 22, pair("a", "b", 22))
	wantMoved(t, "the other way", []string{"a", b[1]}, []string{"b", a[1]}, 23)
}

// P20.3: texts with too many lines are like those that are the same alone.
func TestPairsMaxLines(t *testing.T) {
	most := strings.Repeat("a line\n", 1000)
	long := most + "x"
	wantMoved(t, "MaxLines", []string{"a", most}, []string{"b", most[7:]}, 50, pair("a", "b", 99))
	wantMoved(t, "one more went", []string{"a", long}, []string{"b", most}, 1)
	wantMoved(t, "one more came", []string{"a", most}, []string{"b", long}, 1)
	wantMoved(t, "one more, twice", []string{"a", long}, []string{"b", long + "x"}, 1)
	wantMoved(t, "one more, the same", []string{"a", long}, []string{"b", long}, 100, pair("a", "b", 100))
}

// P20.3: modes are no question, and neither are Size and Time.
func TestPairsModes(t *testing.T) {
	files := own(blobs("1\n2\n", "1\n3\n")...)
	for _, mode := range []int{api.ModeFile, api.ModeExec, api.ModeLink} {
		a := []api.Slot{{Path: "a", Mode: mode, Id: blobId("1\n2\n"), Size: 1<<32 - 1}}
		wantPairs(t, "modes", files, a, slots("b", "1\n2\n"), 50, pair("a", "b", 100))
		wantPairs(t, "modes", files, slots("b", "1\n3\n"), a, 50, pair("b", "a", 50))
	}
}

// P20.3: paths and texts by chance, against the chapter's words.
func TestPairsByChance(t *testing.T) {
	r := rand.New(rand.NewSource(203))
	found := map[int]int{}
	for range 2500 {
		var texts []string
		for range 1 + r.Intn(8) {
			texts = append(texts, anyText(r, 10))
		}
		l := [2][]string{}
		for i := range l {
			for path := range r.Intn(9) {
				if r.Intn(4) > 0 {
					l[i] = append(l[i], string("abAB"[r.Intn(4)])+strconv.Itoa(path+i*r.Intn(9)), texts[r.Intn(len(texts))])
				}
			}
			all := told(l[i])
			l[i] = nil
			for _, path := range slices.Sorted(maps.Keys(all)) {
				l[i] = append(l[i], path, all[path])
			}
		}
		least := []int{1, 20, 50, 100}[r.Intn(4)]
		wanted := plainPairs(told(l[0]), told(l[1]), least)
		found[len(wanted)]++
		wantPairs(t, "by chance", filesOf(l[0], l[1]), slots(l[0]...), slots(l[1]...), least, wanted...)
	}
	if len(found) < 6 {
		t.Errorf("too little was tried: %v", found)
	}
}

// P20.3, P1: as many slots as may be: all with one blob, all with others, and each a little like many others.
func TestPairsOfMany(t *testing.T) {
	one := func(folder string) []api.Slot {
		l := many(folder, api.MaxEntries)
		for i := range l {
			l[i].Id = blobId("one")
		}
		return l
	}
	a, b := one("a"), one("b")
	var wanted []rename.Pair
	for i := range a {
		wanted = append(wanted, pair(a[i].Path, b[i].Path, 100))
	}
	wantPairs(t, "MaxEntries with one blob", own(blob("one")), a, b, 100, wanted...)
	const n = 300
	var list []api.Object
	a, b, wanted = many("a", n), many("b", n), nil
	for i := range n {
		for j, l := range [][]api.Slot{a, b} {
			o := blob("a line of all\n" + strings.Repeat("a line of "+strconv.Itoa(i)+"\n", 5) + strings.Repeat("x", j))
			l[i].Id = idOf(o)
			list = append(list, o)
		}
		like := rename.Like(list[2*i].Data, list[2*i+1].Data)
		wanted = append(wanted, pair(a[i].Path, b[i].Path, like))
	}
	wantPairs(t, "a little like others", own(list...), a, b, 1, wanted...)
	wantPairs(t, "a little like others", packed(t, list...), a, b, 90, wanted...)
}
