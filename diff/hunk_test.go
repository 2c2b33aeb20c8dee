package diff_test

import (
	"math"
	"math/rand"
	"slices"
	"testing"

	"codicil/api"
	"codicil/diff"
)

// hunk answers a hunk; hunks a list of them.
func hunk(from, to complex128) diff.Hunk { return diff.Hunk{From: from, To: to} }

func hunks(l ...diff.Hunk) []diff.Hunk { return l }

// P19.2: pieces without a step by 1 + i, as long as can be; where nothing goes or comes there is none.
func TestHunks(t *testing.T) {
	for _, a := range [][]string{nil, {}, list("x"), list("xyx")} {
		wantHunks(t, a, slices.Clone(a))
	}
	wantHunks(t, list("xy"), nil, hunk(0, 2))
	wantHunks(t, nil, list("xy"), hunk(0, 2i))
	wantHunks(t, list("x"), list("y"), hunk(0, 1+1i))
	wantHunks(t, list("xy"), list("zwv"), hunk(0, 2+3i))
	wantHunks(t, list("axb"), list("cxd"), hunk(0, 1+1i), hunk(2+2i, 3+3i))
	wantHunks(t, list("xayb"), list("xyb"), hunk(1+1i, 2+1i))
	wantHunks(t, list("xyb"), list("xayb"), hunk(1+1i, 1+2i))
	wantHunks(t, list("xyz"), list("xyzab"), hunk(3+3i, 3+5i))
	wantHunks(t, list("abcxdeyf"), list("xghyi"), hunk(0, 3), hunk(4+1i, 6+3i), hunk(7+4i, 8+5i))
	wantHunks(t, list("xx"), list("xxx"), hunk(2+2i, 2+3i))
}

// P19.2: Apply exchanges lines; those that stay are a's, whatever b has there.
func TestApply(t *testing.T) {
	a, b := list("abcdef"), list("ABCDEF")
	wantApplied(t, "none", a, b, nil, a...)
	wantApplied(t, "none", a, b, hunks(), a...)
	wantApplied(t, "none", nil, nil, nil)
	wantApplied(t, "all", a, b, hunks(hunk(0, 6+6i)), b...)
	wantApplied(t, "all go", a, nil, hunks(hunk(0, 6)))
	wantApplied(t, "all come", nil, b, hunks(hunk(0, 6i)), b...)
	wantApplied(t, "the first", a, b, hunks(hunk(0, 1+1i)), list("Abcdef")...)
	wantApplied(t, "the last", a, b, hunks(hunk(5+5i, 6+6i)), list("abcdeF")...)
	wantApplied(t, "within", a, b, hunks(hunk(2+2i, 4+4i)), list("abCDef")...)
	wantApplied(t, "two", a, b, hunks(hunk(1+1i, 2+2i), hunk(3+3i, 4+4i)), list("aBcDef")...)
	wantApplied(t, "three", a, b, hunks(hunk(0, 1+1i), hunk(2+2i, 3+3i), hunk(5+5i, 6+6i)), list("AbCdeF")...)
	wantApplied(t, "goes, then comes", a, b, hunks(hunk(1+1i, 2+1i), hunk(4+3i, 4+4i)), list("acdDef")...)
	wantApplied(t, "comes, then goes", a, b, hunks(hunk(0, 2i), hunk(1+3i, 3+3i)), list("ABadef")...)
	wantApplied(t, "more come", a, list("ABCDEFGH"), hunks(hunk(3+3i, 4+6i)), list("abcDEFef")...)
	wantApplied(t, "fewer come", a, list("ABC"), hunks(hunk(1+1i, 5+2i)), list("aBf")...)
	wantApplied(t, "the hunks of both", list("xy"), list("yz"), hunks(hunk(0, 1), hunk(2+1i, 2+2i)), list("yz")...)
	zero := math.Copysign(0, -1)
	wantApplied(t, "-0 is 0", a, b, hunks(hunk(complex(zero, zero), 1+1i)), list("Abcdef")...)
	wantApplied(t, "-0 is 0", a, list("BCDEF"), hunks(hunk(complex(0, zero), complex(1, zero))), list("bcdef")...)
}

// P19.2: hunks that are not in form.
func TestApplyRefused(t *testing.T) {
	a, b := list("abcdef"), list("ABCDEF")
	inf, nan := math.Inf(1), math.NaN()
	for what, l := range map[string][]diff.Hunk{
		"they don't rise":             {hunk(3+3i, 4+4i), hunk(1+1i, 2+2i)},
		"one twice":                   {hunk(1+1i, 2+2i), hunk(1+1i, 2+2i)},
		"they overlap":                {hunk(1+1i, 3+3i), hunk(2+2i, 4+4i)},
		"one in another":              {hunk(1+1i, 5+5i), hunk(2+2i, 3+3i)},
		"they touch":                  {hunk(1+1i, 2+2i), hunk(2+2i, 3+3i)},
		"they touch in one part":      {hunk(1+1i, 2+2i), hunk(3+2i, 4+4i)},
		"they touch in the other":     {hunk(1+1i, 2+2i), hunk(2+3i, 4+4i)},
		"an empty one":                {hunk(1+1i, 1+1i)},
		"an empty one at 0":           {hunk(0, 0)},
		"an empty one at the end":     {hunk(6+6i, 6+6i)},
		"an empty one behind another": {hunk(1+1i, 2+2i), hunk(4+4i, 4+4i)},
		"To below From":               {hunk(2+2i, 1+1i)},
		"To below From in one part":   {hunk(2+2i, 1+3i)},
		"To below From in the other":  {hunk(2+2i, 3+1i)},
		"a first From, unequal":       {hunk(1, 2+2i)},
		"a first From, unequal too":   {hunk(1+2i, 2+2i)},
		"a next From, unequal":        {hunk(1+1i, 2+2i), hunk(4+3i, 5+5i)},
		"a next From, unequal too":    {hunk(1+1i, 2+2i), hunk(3+4i, 5+5i)},
		"unequal lines behind":        {hunk(1+1i, 2+1i)},
		"unequal lines behind too":    {hunk(1+1i, 1+2i)},
		"unequal behind the second":   {hunk(1+1i, 2+2i), hunk(3+3i, 5+4i)},
		"From below 0":                {hunk(-1-1i, 1+1i)},
		"From below 0 in one part":    {hunk(-1, 1+1i)},
		"From below 0 in the other":   {hunk(-1i, 1+1i)},
		"To beyond the plane":         {hunk(5+5i, 7+7i)},
		"To beyond it in one part":    {hunk(5+5i, 7+6i)},
		"To beyond it in the other":   {hunk(5+5i, 6+7i)},
		"all beyond the plane":        {hunk(7+7i, 8+8i)},
		"From, no whole number":       {hunk(0.5+0.5i, 1+1i)},
		"To, no whole number":         {hunk(0, 1.5+1.5i)},
		"To, one part":                {hunk(0, 1.5+1i)},
		"To, the other":               {hunk(0, 1+1.5i)},
		"nearly whole":                {hunk(0, complex(math.Nextafter(1, 2), math.Nextafter(1, 2)))},
		"infinite To":                 {hunk(0, complex(inf, inf))},
		"infinite To in one part":     {hunk(0, complex(inf, 6))},
		"infinite From":               {hunk(complex(-inf, -inf), 1+1i)},
		"infinite From and To":        {hunk(complex(inf, inf), complex(inf, inf))},
		"no number":                   {hunk(0, complex(nan, nan))},
		"no number in one part":       {hunk(0, complex(nan, 1))},
		"no number in the other":      {hunk(0, complex(1, nan))},
		"From is no number":           {hunk(complex(nan, nan), 1+1i)},
		"a good one ahead":            {hunk(0, 1+1i), hunk(complex(nan, 3), 4+4i)},
		"a good one behind":           {hunk(2+1i, 3+3i), hunk(4+4i, 5+5i)},
		"huge":                        {hunk(0, 1e300+1e300i)},
		"beyond whole numbers":        {hunk(0, complex(1<<63, 1<<63))},
	} {
		wantNotApplied(t, what, a, b, l, api.ErrForm)
	}
	for _, x := range [][2][]string{{a, nil}, {nil, b}, {a, b[1:]}, {a[1:], b}} {
		wantNotApplied(t, "none, of unequal counts", x[0], x[1], nil, api.ErrForm)
		wantNotApplied(t, "none, of unequal counts", x[0], x[1], hunks(), api.ErrForm)
	}
	wantNotApplied(t, "in a plane of one point", nil, nil, hunks(hunk(0, 0)), api.ErrForm)
	wantNotApplied(t, "of other lists", list("xyz"), list("yz"), hunks(hunk(0, 1), hunk(2+1i, 2+2i)), api.ErrForm)
}

// plainApply answers by the chapter's words what Apply does, of lists that aren't too long.
func plainApply(a, b []string, l []diff.Hunk) ([]string, api.Errno) {
	whole := func(v float64, n int) bool {
		for i := range n + 1 {
			if v == float64(i) {
				return true
			}
		}
		return false
	}
	ahead, ok := complex128(0), true
	for i, h := range l {
		for _, p := range []complex128{h.From, h.To} {
			ok = ok && whole(real(p), len(a)) && whole(imag(p), len(b))
		}
		ok = ok && real(h.To) >= real(h.From) && imag(h.To) >= imag(h.From) && (real(h.To) > real(h.From) || imag(h.To) > imag(h.From))
		dx, dy := real(h.From)-real(ahead), imag(h.From)-imag(ahead)
		ok = ok && dx == dy && (i == 0 || dx >= 1)
		ahead = h.To
	}
	if !ok || float64(len(a))-real(ahead) != float64(len(b))-imag(ahead) {
		return nil, api.ErrForm
	}
	made := slices.Clone(a)
	for _, h := range slices.Backward(l) {
		made = slices.Replace(made, int(real(h.From)), int(real(h.To)), b[int(imag(h.From)):int(imag(h.To))]...)
	}
	return made, api.OK
}

// anyPart answers a part of a point by chance, mostly one that may be.
func anyPart(r *rand.Rand, n int) float64 {
	if r.Intn(60) == 0 {
		return []float64{-1, 0.5, float64(n) + 1, math.Inf(1), math.Inf(-1), math.NaN(), 1e18}[r.Intn(7)]
	}
	return float64(r.Intn(n + 1))
}

// P19.2: hunks by chance, against the chapter's words: all that may be, and such that are nearly so.
func TestApplyByChance(t *testing.T) {
	r := rand.New(rand.NewSource(192))
	good, bad := 0, 0
	for range 60000 {
		a, b := list("abcde")[:r.Intn(6)], list("ABCDE")[:r.Intn(6)]
		var l []diff.Hunk
		for range r.Intn(4) {
			from := complex(anyPart(r, len(a)), anyPart(r, len(b)))
			l = append(l, hunk(from, from+complex(anyPart(r, 2), anyPart(r, 2))))
		}
		slices.SortFunc(l, func(x, y diff.Hunk) int { return int(real(x.From) - real(y.From)) })
		wanted, e := plainApply(a, b, l)
		if e == api.OK {
			good++
			wantApplied(t, "by chance", a, b, l, wanted...)
		} else {
			bad++
			wantNotApplied(t, "by chance", a, b, l, e)
		}
	}
	if good < 2000 || bad < 2000 {
		t.Errorf("too little was tried: %d in form, %d not", good, bad)
	}
}

// P19.2: all lists of up to two hunks with small parts, against the chapter's words.
func TestApplyAllSmall(t *testing.T) {
	var points []complex128
	for x := range 4 {
		for y := range 4 {
			points = append(points, complex(float64(x), float64(y)))
		}
	}
	var all []diff.Hunk
	for _, from := range points {
		for _, to := range points {
			all = append(all, hunk(from, to))
		}
	}
	a, b := list("abc"), list("ABC")
	check := func(l ...diff.Hunk) {
		wanted, we := plainApply(a, b, l)
		if lines, e := diff.Apply(a, b, l); e != we || !slices.Equal(lines, wanted) {
			t.Errorf("Apply of %v: %q, error %d, wanted %q, error %d", l, lines, e, wanted, we)
		}
	}
	for _, first := range all {
		check(first)
		for _, second := range all {
			check(first, second)
		}
	}
}
