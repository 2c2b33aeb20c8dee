package pack_test

import (
	"encoding/base64"
	"encoding/hex"
	"strings"
	"testing"

	"codicil/api"
	"codicil/pack"
)

// Two packs that Git 2.39.5 wrote of one repository: a commit with three files that are nearly the same, and a tag. In the
// first one deltas name their bases by id, in the second by span.
const byIdPack = "" +
	"UEFDSwAAAAIAAAAGtSF4nGXQMQqAMBBE0d5T7BHcUaMeRzCCEBKw8fpiF/a3nykeU+6abbR22WHXXfJQ/uAxKIYphjmGJYbUhae9tsbBFsMOF6WgOqwOrEPr4HpCgdhBdpgFs3gvzIJZMAtmwSyYBbN6c67n8AHE" +
	"zKHnngh4nH3KMQ4CIRBG4Z5TTG/jAAOSGLMe5R+YiRYryQbvbyxsfcVXvXWYkUN7qgrJTVBTKRWs4spDL44C7yoRGNwsefSe2T1LQo46vEkMeK/HPOhOV2x6Iz7/otPX0Oe+P9eyP0uYLwsfkfAmt8AIeJw1ijEK" +
	"wzAMAHe/QnsXyZYcBUppn+LIckghpBQTyO+Lh95wt9yxvN06JK3mrlw9M0rMUqymGSPOydki0USaG5m0YqrsiCLCJkY2RUkt9OvjYMe+bz30ssJJI6t/4QX38lweQPgHbsNhDOEHMYsi8qsHeJwzNDAwMzFRSGQI" +
	"e+wqdui2RkeD/8qmYyzzZBjeXLtp4bks8Mj9hdt5DqlMM4QoTGLg+//q/O89jbPtXIwa++y32PyxTrGaZXuum3NldjJPispjqMJkhoyk9KTwbSdecb/yWXdwDc+/peu3CVZ6s745Wio4jeEl7zEAUpw0tX8O/+rP" +
	"+7yBmz5EMoGOP7Q8/DtkOpo9zosJqWtjDGQk43icm8oyiWVCOUtOZl7qxqrpjAArwwWm/gEO/+rP+7yBmz5EMoGOP7Q8/DtkOpo9zosJqWtjDGQk43icm8oykWWCMXNRfvlEcweWnMy81IlVj1l8PP1cJycybgAA" +
	"oLAKwA6NxwAdGwL11yA4TluFIjLHAqetDt45N0xgdQ4ly3b1"

const bySpanPack = "" +
	"UEFDSwAAAAIAAAAGtSF4nGXQMQqAMBBE0d5T7BHcUaMeRzCCEBKw8fpiF/a3nykeU+6abbR22WHXXfJQ/uAxKIYphjmGJYbUhae9tsbBFsMOF6WgOqwOrEPr4HpCgdhBdpgFs3gvzIJZMAtmwSyYBbN6c67n8AHE" +
	"zKHnngh4nH3KMQ4CIRBG4Z5TTG/jAAOSGLMe5R+YiRYryQbvbyxsfcVXvXWYkUN7qgrJTVBTKRWs4spDL44C7yoRGNwsefSe2T1LQo46vEkMeK/HPOhOV2x6Iz7/otPX0Oe+P9eyP0uYLwsfkfAmt8AIeJw1ijEK" +
	"wzAMAHe/QnsXyZYcBUppn+LIckghpBQTyO+Lh95wt9yxvN06JK3mrlw9M0rMUqymGSPOydki0USaG5m0YqrsiCLCJkY2RUkt9OvjYMe+bz30ssJJI6t/4QX38lweQPgHbsNhDOEHMYsi8qsHeJwzNDAwMzFRSGQI" +
	"e+wqdui2RkeD/8qmYyzzZBjeXLtp4bks8Mj9hdt5DqlMM4QoTGLg+//q/O89jbPtXIwa++y32PyxTrGaZXuum3NldjJPispjqMJkhoyk9KTwbSdecb/yWXdwDc+/peu3CVZ6s745Wio4jeEl7zEAUpw0tW+CT3ic" +
	"m8oyiWVCOUtOZl7qxqrpjAArwwWm7gGCaXicm8oykWWCMXNRfvlEcweWnMy81IlVj1l8PP1cJycybgAAoLAKwD/wFz+71DA+GD2oxt6CK50Sr1keOWbjNa6MpTpXlY8P"

// gitObjects answers the objects of both packs, in their order, as Git lists them.
func gitObjects() []struct {
	id         string
	kind       api.Kind
	byId, span int
	text       string
} {
	var lines strings.Builder
	for i := range 30 {
		lines.WriteString("line " + decimal(i) + " of a file\n")
	}
	a := lines.String()
	b := strings.Replace(a, "line 7 of", "row 7 of", 1) + "end\n"
	c := strings.Replace(strings.Replace(a, "line 3 of", "row 3 of", 1), "line 20", "LINE 20", 1)
	const (
		idA      = "56e34516c2db2888804fa982c6049e1c00ecd6d93849a651c4dfa1b70cc22496"
		idB      = "0effeacffbbc819b3e4432818e3fb43cfc3b643a9a3dce8b09a96b630c6424e3"
		idC      = "6862676257b6c8ea0bea4caec1ac0cfea5afb611794b05ecc575119600e90dc6"
		idTree   = "fabc37ba5495a73667a1b5fb1db8fa6afcb52aad19e3f2fc41ff453a42bdf952"
		idCommit = "38dcee84de6405265acd3902093e4c2117186f1c5fac884e005554c5c1c7253f"
		idTag    = "d871e62283e1d2b9ad7ce26de6504e5cf83ac047fdad3aa69549352ad7894436"
		who      = "A <a@b> 1000000000 +0000"
	)
	tree := "100644 a\x00" + raw(idA) + "100644 b\x00" + raw(idB) + "100644 c\x00" + raw(idC)
	commit := "tree " + idTree + "\nauthor " + who + "\ncommitter " + who + "\n\none\n"
	tag := "object " + idCommit + "\ntype commit\ntag v1\ntagger " + who + "\n\ntag\n"
	return []struct {
		id         string
		kind       api.Kind
		byId, span int
		text       string
	}{
		{idB, api.Blob, 12, 12, b}, {idCommit, api.Commit, 123, 123, commit}, {idTag, api.Tag, 232, 232, tag}, {idTree, api.Tree, 346, 346, tree}, {idA, api.Blob, 475, 475, a}, {idC, api.Blob, 531, 501, c},
	}
}

// decimal answers a number below 100 in digits.
func decimal(n int) string {
	if n < 10 {
		return string(rune('0' + n))
	}
	return decimal(n/10) + decimal(n%10)
}

// raw answers the bytes of an id in digits.
func raw(digits string) string {
	p, err := hex.DecodeString(digits)
	if err != nil {
		panic(err)
	}
	return string(p)
}

// P9.2, P3: packs that Git wrote are read, with Git's ids and places; what is written of their items anew is read as the same.
func TestReadGit(t *testing.T) {
	for _, x := range []struct {
		what, digits string
		bySpan       bool
	}{{"by id", byIdPack, false}, {"by span", bySpanPack, true}} {
		p, err := base64.StdEncoding.DecodeString(x.digits)
		if err != nil {
			t.Fatal(err)
		}
		wantPlain(t, x.what, p)
		l, e := pack.Read(p)
		wanted := gitObjects()
		if e != api.OK || len(l) != len(wanted) {
			t.Fatalf("%s: %d objects, error %d", x.what, len(l), e)
		}
		for i, w := range wanted {
			at := w.byId
			if x.bySpan {
				at = w.span
			}
			if got := l[i]; string(got.Id[:]) != raw(w.id) || got.Object.Kind != w.kind || got.At != at || string(got.Object.Data) != w.text {
				t.Errorf("%s: the object %d: kind %d at %d, id %x: %q", x.what, i, got.Object.Kind, got.At, got.Id, got.Object.Data)
			}
		}
		anew, e := pack.Read(mustWrite(t, itemsOf(t, p), 2))
		if e != api.OK || len(anew) != len(l) {
			t.Fatalf("%s: written anew: %d objects, error %d", x.what, len(anew), e)
		}
		for i := range l {
			if anew[i].Id != l[i].Id {
				t.Errorf("%s: written anew: the object %d has another id", x.what, i)
			}
		}
	}
}

// itemsOf answers the items of which a pack with the pieces of p is written.
func itemsOf(t *testing.T, p []byte) []pack.Item {
	t.Helper()
	pieces, e := pack.Pieces(p)
	if e != api.OK {
		t.Fatalf("Pieces: error %d", e)
	}
	places := map[int]int{}
	var items []pack.Item
	for i, x := range pieces {
		places[x.At] = i
		items = append(items, pack.Item{Kind: x.Kind, Data: x.Data, Back: places[x.BaseAt], Base: x.Base})
	}
	return items
}
