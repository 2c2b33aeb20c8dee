package merge_test

import (
	"strings"
	"testing"

	"codicil/api"
)

// sides puts a text in the place of base, ours and theirs, one after the other; the others are other.
func sides(text, other string) map[string][3]string {
	return map[string][3]string{"base": {text, other, other}, "ours": {other, text, other}, "theirs": {other, other, text}}
}

// P21.1: as many lines as may be, with and without the last line feed, and one more.
func TestMaxLines(t *testing.T) {
	most := counted("line ", api.MaxLines)
	unended := strings.TrimSuffix(most, "\n")
	for _, text := range []string{most, unended} {
		wantOne(t, text, text, text, both(), text, 0)
		wantOne(t, "", text, "", both(), text, 0)
		wantOne(t, "", "", text, both(), text, 0)
		wantOne(t, text, "", "", both(), "", 0)
		wantOne(t, text, "", "x", both(), clash(both(), "", most, "x\n"), 1)
	}
	// Three thousand lines and four of a clash may come out.
	a, b := counted("a", api.MaxLines), counted("b", api.MaxLines)
	wantOne(t, most, a, b, both(), clash(both(), a, most, b), 1)
	for what, x := range map[string]string{
		"a line without its line feed": most + "x", "a line": most + "x\n", "an empty line": most + "\n",
		"only line feeds": strings.Repeat("\n", api.MaxLines+1), "many lines": strings.Repeat("x\n", 5*api.MaxLines),
	} {
		for _, other := range []string{"", most, "1\n"} {
			for side, l := range sides(x, other) {
				wantError(t, what+" too many in "+side, l[0], l[1], l[2], both(), api.ErrLong)
			}
		}
		wantError(t, what+" too many in all three", x, x, x, both(), api.ErrLong)
	}
	wantOne(t, "", strings.Repeat("\n", api.MaxLines), "", both(), strings.Repeat("\n", api.MaxLines), 0)
}

// P21.1: as many bytes as may be, and one more.
func TestMaxData(t *testing.T) {
	most := strings.Repeat("x", api.MaxData)
	ended := most[1:] + "\n"
	for _, text := range []string{most, ended} {
		wantOne(t, text, text, text, both(), text, 0)
		wantOne(t, text, "", "", both(), "", 0)
		wantOne(t, text, "", text, both(), "", 0)
		wantOne(t, "", text, "", both(), text, 0)
		wantOne(t, "1\n", "1\n", text, both(), text, 0)
		wantOne(t, "1\n", text, text, both(), text, 0)
		for _, long := range []string{text + "\n", "\n" + text, text + text} {
			for _, other := range []string{"", text, "1\n"} {
				for side, l := range sides(long, other) {
					wantError(t, "too many bytes in "+side, l[0], l[1], l[2], both(), api.ErrLong)
				}
			}
			wantError(t, "too many bytes in all three", long, long, long, both(), api.ErrLong)
		}
	}
}

// P21.1: what comes out has as many bytes as may be, and one more, without a clash and with one.
func TestMaxOut(t *testing.T) {
	// The anchor stands between the two changes.
	for _, ahead := range []int{1, 1000, api.MaxData / 2, api.MaxData - 3} {
		behind := api.MaxData - ahead - len("1\n") - len("\n")
		ours, theirs := strings.Repeat("a", ahead-1)+"\n1\n", "1\n"+strings.Repeat("b", behind)
		wantOne(t, "1\n", ours, theirs+"\n", both(), ours+theirs[2:]+"\n", 0)
		wantError(t, "one byte more behind", "1\n", ours, theirs+"b\n", both(), api.ErrLong)
		wantError(t, "one byte more ahead", "1\n", "a"+ours, theirs+"\n", both(), api.ErrLong)
		wantError(t, "one byte more behind, exchanged", "1\n", theirs+"b\n", ours, both(), api.ErrLong)
	}
	labels := [2]string{"a", "bcd"}
	room := api.MaxData - len(clash(labels, "", "", ""))
	for _, x := range [][3]int{{room - 4, 2, 2}, {2, room - 4, 2}, {2, 2, room - 4}, {room / 3, room / 3, room - 2*(room/3)}, {0, room / 2, room - room/2}, {room / 2, 0, room - room/2}} {
		ours, base, theirs := line("a", x[0]), line("o", x[1]), line("b", x[2])
		wanted := clash(labels, ours, base, theirs)
		if len(wanted) != api.MaxData {
			t.Fatalf("the clash has %d bytes", len(wanted))
		}
		wantOne(t, base, ours, theirs, labels, wanted, 1)
		// The line feed that is put behind a last line counts.
		wantOne(t, base, ours, strings.TrimSuffix(theirs, "\n"), labels, wanted, 1)
		wantError(t, "a line feed more", base, ours, theirs[:len(theirs)-1]+"b", labels, api.ErrLong)
		wantError(t, "one byte more in theirs", base, ours, "b"+theirs, labels, api.ErrLong)
		wantError(t, "one byte more in ours", base, "a"+ours+strings.Repeat("\n", max(0, 1-len(ours))), theirs, labels, api.ErrLong)
		wantError(t, "one byte more in a label", base, ours, theirs, [2]string{"a", "bcde"}, api.ErrLong)
		wantError(t, "one byte more in the other label", base, ours, theirs, [2]string{"aa", "bcd"}, api.ErrLong)
	}
	// Three texts with as many bytes as may be.
	most := api.MaxData
	wantError(t, "three great texts", line("o", most), line("a", most), line("b", most), labels, api.ErrLong)
}

// line answers a line of n bytes; of none there is no line.
func line(letter string, n int) string {
	if n == 0 {
		return ""
	}
	return strings.Repeat(letter, n-1) + "\n"
}

// P21.1: labels that may be: empty ones, with 100 bytes, of any bytes but two.
func TestLabels(t *testing.T) {
	var allowed []byte
	for b := range 256 {
		if b != 0 && b != '\n' {
			allowed = append(allowed, byte(b))
		}
	}
	good := []string{"", "a", " ", "HEAD", strings.Repeat("a", 100), strings.Repeat("\xff", 100), "a b\r", "=======", string(allowed[:100]), string(allowed[100:200]), string(allowed[200:]), strings.Repeat("é", 50)}
	for _, a := range good {
		for _, b := range good {
			labels := [2]string{a, b}
			wantOne(t, "1\n", "2\n", "3\n", labels, "<<<<<<< "+a+"\n2\n||||||| base\n1\n=======\n3\n>>>>>>> "+b+"\n", 1)
			wantOne(t, "1\n", "2\n", "1\n", labels, "2\n", 0)
		}
	}
	wantOne(t, "1\n", "2\n", "3\n", [2]string{}, "<<<<<<< \n2\n||||||| base\n1\n=======\n3\n>>>>>>> \n", 1)
}

// P21.1: labels that may not be, on either side and on both, whether something clashes or not.
func TestWrongLabels(t *testing.T) {
	long := strings.Repeat("x\n", api.MaxLines+1)
	great := strings.Repeat("x", api.MaxData+1)
	ours, theirs := line("a", api.MaxData)+"1\n", "1\nb\n"
	for _, bad := range []string{"\n", "\x00", "a\n", "\na", "a\nb", "a\x00b", "a\x00", strings.Repeat("a", 101), strings.Repeat("a", 1000), strings.Repeat("é", 51), strings.Repeat("a", 100) + "\n"} {
		for _, labels := range [][2]string{{bad, "b"}, {"a", bad}, {bad, bad}, {"", bad}, {bad, ""}} {
			wantError(t, "a wrong label beside a clash", "1\n", "2\n", "3\n", labels, api.ErrName)
			wantError(t, "a wrong label beside a change", "1\n", "2\n", "1\n", labels, api.ErrName)
			wantError(t, "a wrong label beside nothing", "", "", "", labels, api.ErrName)
			for _, text := range []string{long, great} {
				for side, l := range sides(text, "1\n") {
					wantError(t, "a wrong label, and too much in "+side, l[0], l[1], l[2], labels, api.ErrLong)
				}
			}
			// What comes out is asked at the end.
			wantError(t, "a wrong label, and too much would come out", "1\n", ours[2:], theirs, labels, api.ErrName)
		}
	}
	wantError(t, "too much comes out", "1\n", ours[2:], theirs, both(), api.ErrLong)
}
