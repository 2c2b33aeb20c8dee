package names_test

import (
	"math"
	"math/rand"
	"regexp"
	"strconv"
	"strings"
	"testing"
	"unsafe"

	"codicil/api"
	"codicil/names"
)

// wantIdent fails unless i is written as text, and text is read as i.
func wantIdent(t *testing.T, i api.Ident, text string) {
	t.Helper()
	if !names.Ident(i) {
		t.Errorf("Ident(%+v): false", i)
	}
	if s, e := names.PutIdent(i); s != text || e != api.OK {
		t.Errorf("PutIdent(%+v): %q, error %d, wanted %q", i, s, e, text)
	}
	if j, e := names.ParseIdent(text); j != i || e != api.OK {
		t.Errorf("ParseIdent(%q): %+v, error %d, wanted %+v", text, j, e, i)
	}
}

// wantNoIdent fails unless i may not be, and isn't written.
func wantNoIdent(t *testing.T, i api.Ident) {
	t.Helper()
	if names.Ident(i) {
		t.Errorf("Ident(%+v): true", i)
	}
	if s, e := names.PutIdent(i); s != "" || e != api.ErrName {
		t.Errorf("PutIdent(%+v): %q, error %d, wanted ErrName", i, s, e)
	}
}

// wantNoForm fails unless each text is no ident's.
func wantNoForm(t *testing.T, texts ...string) {
	t.Helper()
	for _, s := range texts {
		if i, e := names.ParseIdent(s); i != (api.Ident{}) || e != api.ErrForm {
			t.Errorf("ParseIdent(%q): %+v, error %d, wanted ErrForm alone", s, i, e)
		}
	}
}

// P6.1, P6.3: the chapter's examples.
func TestIdentExamples(t *testing.T) {
	wantIdent(t, api.Ident{Name: "A B", Email: "a@b", Time: 5, Zone: -90}, "A B <a@b> 5 -0130")
	wantIdent(t, api.Ident{Name: "A B", Email: "a@b", Time: 5}, "A B <a@b> 5 +0000")
	wantIdent(t, api.Ident{Time: 5}, " <> 5 +0000")
	wantIdent(t, api.Ident{}, " <> 0 +0000")
	wantNoForm(t, "A <b> 05 +0000", "A <b> 5 -0000", "A <b> 5 +0060")
}

// P6.1: Name and Email: their bytes and how many of them there may be.
func TestWho(t *testing.T) {
	for _, s := range []string{"", "a", " ", "  ", " a ", "a b", "\"", "a@b", ",", "\t", "\r", "\x01", "\x7f", "\xff", "é", ".git", "/", "5 +0000", letters(99), letters(100), strings.Repeat("\xff", 100), strings.Repeat(" ", 100)} {
		wantIdent(t, api.Ident{Name: s, Email: "e", Time: 1, Zone: 1}, s+" <e> 1 +0001")
		wantIdent(t, api.Ident{Name: "n", Email: s, Time: 1, Zone: 1}, "n <"+s+"> 1 +0001")
		wantIdent(t, api.Ident{Name: s, Email: s}, s+" <"+s+"> 0 +0000")
	}
	for b, c := range everyByte() {
		for _, s := range []string{c, "a" + c, c + "a", "\xff" + c, letters(50) + c + letters(49)} {
			name, email := api.Ident{Name: s, Email: "e"}, api.Ident{Name: "n", Email: s}
			if b == 0 || b == '\n' || b == '<' || b == '>' {
				wantNoIdent(t, name)
				wantNoIdent(t, email)
				wantNoForm(t, s+" <e> 0 +0000", "n <"+s+"> 0 +0000")
				continue
			}
			wantIdent(t, name, s+" <e> 0 +0000")
			wantIdent(t, email, "n <"+s+"> 0 +0000")
		}
	}
	for _, s := range []string{letters(101), letters(5000), strings.Repeat("\xff", 101), strings.Repeat("é", 51)} {
		wantNoIdent(t, api.Ident{Name: s})
		wantNoIdent(t, api.Ident{Email: s})
		wantNoForm(t, s+" <> 0 +0000", " <"+s+"> 0 +0000")
	}
}

// P6.1: Time at both its ends and where it gains a digit.
func TestTime(t *testing.T) {
	times := []int{0, 1, 1<<40 - 1, 1 << 40, 1<<31 - 1, 1 << 31, 1 << 32}
	for n := 10; n <= 1<<40; n *= 10 {
		times = append(times, n-1, n)
	}
	for _, n := range times {
		wantIdent(t, api.Ident{Name: "n", Email: "e", Time: n}, "n <e> "+strconv.Itoa(n)+" +0000")
	}
	for _, n := range []int{math.MinInt, -1 << 40, -1, 1<<40 + 1, 1 << 41, math.MaxInt} {
		wantNoIdent(t, api.Ident{Name: "n", Email: "e", Time: n})
		wantNoForm(t, "n <e> "+strconv.Itoa(n)+" +0000")
	}
	for _, s := range []string{"", "-", "+", "+5", "-5", "-0", "+0", "00", "05", "000", "5x", "x", "x5", "5.", "5.0", "0x5", "5e1", "1_0", "٥", "1099511627777", "01099511627776", "9223372036854775808", "18446744073709551616", "18446744073709551621", strings.Repeat("9", 5000), strings.Repeat("0", 5000) + "5", "5\x00", "5\n"} {
		wantNoForm(t, "n <e> "+s+" +0000")
	}
}

// P6.1: each Zone, and those beyond both ends.
func TestZone(t *testing.T) {
	two := func(n int) string { return string([]byte{byte('0' + n/10), byte('0' + n%10)}) }
	for hours := range 24 {
		for minutes := range 60 {
			zone, digits := hours*60+minutes, two(hours)+two(minutes)
			wantIdent(t, api.Ident{Name: "n", Email: "e", Zone: zone}, "n <e> 0 +"+digits)
			if zone > 0 {
				wantIdent(t, api.Ident{Name: "n", Email: "e", Zone: -zone}, "n <e> 0 -"+digits)
			}
		}
	}
	wantIdent(t, api.Ident{Zone: 1439}, " <> 0 +2359")
	wantIdent(t, api.Ident{Zone: -1439}, " <> 0 -2359")
	for _, n := range []int{math.MinInt, -1441, -1440, 1440, 1441, 2359, math.MaxInt} {
		wantNoIdent(t, api.Ident{Zone: n})
	}
}

// P6.3: of all zones of four digits only those of a day's hours and an hour's minutes are read.
func TestZoneDigits(t *testing.T) {
	for n := range 10000 {
		digits := strconv.Itoa(10000 + n)[1:]
		for _, sign := range []string{"+", "-"} {
			text := "n <e> 0 " + sign + digits
			if n/100 > 23 || n%100 > 59 || n == 0 && sign == "-" {
				wantNoForm(t, text)
				continue
			}
			zone := n/100*60 + n%100
			if sign == "-" {
				zone = -zone
			}
			if i, e := names.ParseIdent(text); i.Zone != zone || e != api.OK {
				t.Errorf("ParseIdent(%q): %+v, error %d", text, i, e)
			}
		}
	}
	for _, s := range []string{"", "+", "-", "0000", "00000", "+0", "+00", "+000", "+00000", "-00130", "-130", "+130", "+1", "++000", "+-130", "--130", "+ 130", "+0130 ", " +0130", "+0130x", "+013x", "+x130", "~0130", "*0130", "+01.0", "+0_10", "+٠", "−0130", "+0130\n", "+0130\x00", "+99999", "+18446744073709551746", "-9223372036854775808", strings.Repeat("0", 5000)} {
		wantNoForm(t, "n <e> 0 "+s)
	}
}

// P6.3: what stands between the fields.
func TestBetweenFields(t *testing.T) {
	wantNoForm(t, "", " ", "<", ">", "<>", " <", " <>", " <> ", " <> 0", " <> 0 ", " <> 0 +", "n", "n <e", "n <e>", "n <e> ", "n <e> 0", "n <e> 0 ",
		"n<e> 0 +0000", "n <e>0 +0000", "n <e> 0+0000", "<e> 0 +0000", "<> 0 +0000", "n  e> 0 +0000", "n <e 0 +0000", "n e 0 +0000", "n <e>  0 +0000", "n <e> 0  +0000", "n <e> 0 +0000 ", "n <e> 0 +0000\n", "n <e> 0 +0000 +0000", "n <e> 0 0 +0000",
		"n\t<e> 0 +0000", "n <e>\t0 +0000", "n <e> 0\t+0000", "n <<e> 0 +0000", "n <e>> 0 +0000", "n <e> > 0 +0000", "n < <e> 0 +0000", "n> <e> 0 +0000", "n< <e> 0 +0000", "a <b> <e> 0 +0000", "n <e> <f> 0 +0000", "n <a> b> 0 +0000", "n > e < 0 +0000", "n (e) 0 +0000", "n <e>, 0 +0000", "n <e> +0000 0", "n <e> +0000", "n\n <e> 0 +0000", "n <e\n> 0 +0000", "n\x00 <e> 0 +0000", "n <e\x00> 0 +0000")
	wantIdent(t, api.Ident{Name: "n ", Email: "e"}, "n  <e> 0 +0000")
	wantIdent(t, api.Ident{Name: " ", Email: " "}, "  < > 0 +0000")
	wantIdent(t, api.Ident{Name: "n", Email: " e "}, "n < e > 0 +0000")
}

// P6.3: an ident's text that is cut, or of which a byte is left out, another one, or one more.
func TestTextTurned(t *testing.T) {
	for _, text := range []string{"A B <a@b> 15 -0130", " <> 0 +0000", "n <e> 1099511627776 +2359"} {
		for n := range text {
			wantNoForm(t, text[:n])
			wantPlain(t, text[:n]+text[n+1:])
			for _, c := range everyByte() {
				wantPlain(t, text[:n]+c+text[n+1:])
				wantPlain(t, text[:n]+c+text[n:])
			}
		}
		for _, c := range everyByte() {
			wantNoForm(t, text+c)
		}
	}
}

// form is how an ident is written; the lengths are asked beside it, as they count bytes.
var form = regexp.MustCompile(`^([^\x00\n<>]*) <([^\x00\n<>]*)> (0|[1-9][0-9]{0,12}) ([+-])([01][0-9]|2[0-3])([0-5][0-9])$`)

// plainIdent answers by that form which ident is written so.
func plainIdent(s string) (api.Ident, api.Errno) {
	m := form.FindStringSubmatch(s)
	if m == nil || len(m[1]) > 100 || len(m[2]) > 100 || m[4]+m[5]+m[6] == "-0000" {
		return api.Ident{}, api.ErrForm
	}
	time, _ := strconv.Atoi(m[3])
	hours, _ := strconv.Atoi(m[5])
	minutes, _ := strconv.Atoi(m[6])
	if time > 1099511627776 {
		return api.Ident{}, api.ErrForm
	}
	zone := 60*hours + minutes
	if m[4] == "-" {
		zone = -zone
	}
	return api.Ident{Name: m[1], Email: m[2], Time: time, Zone: zone}, api.OK
}

// wantPlain fails unless ParseIdent answers as plainIdent does, and what is read is written as the same text; it tells whether s was read.
func wantPlain(t *testing.T, s string) bool {
	t.Helper()
	i, e := names.ParseIdent(s)
	if j, wanted := plainIdent(s); i != j || e != wanted {
		t.Errorf("ParseIdent(%q): %+v, error %d, wanted %+v, %d", s, i, e, j, wanted)
	}
	if e != api.OK {
		return false
	}
	if again, e := names.PutIdent(i); again != s || e != api.OK {
		t.Errorf("%q is written again as %q, error %d", s, again, e)
	}
	return true
}

// P6.3: texts by chance.
func TestParseAgainstPlain(t *testing.T) {
	r := rand.New(rand.NewSource(4))
	one := func(pieces ...string) string { return pieces[r.Intn(len(pieces))] }
	read := 0
	for range 200000 {
		s := chance(r, 2, "a", " ", "a", "<", letters(100)) + one(" <", " <", " <", "<", " ") + chance(r, 2, "b", "b", " ", ">", "\x00", letters(100)) + one("> ", "> ", "> ", ">", " ")
		s += chance(r, 3, "0", "1", "109951162777", "6", "+") + one(" ", " ", " ", "", "  ") + one("+", "-", "") + chance(r, 3, "01", "30", "00", "23", "60")
		if wantPlain(t, s) {
			read++
		}
	}
	if read < 300 {
		t.Errorf("only %d texts were an ident's", read)
	}
}

// P6.3: idents by chance are read again; Ident and PutIdent agree on which may be.
func TestReadAgain(t *testing.T) {
	r := rand.New(rand.NewSource(5))
	seen := map[bool]int{}
	for range 100000 {
		i := api.Ident{
			Name:  chance(r, 4, "a", " ", "b", "\xff", letters(40), ".", "\n", "<"),
			Email: chance(r, 4, "a", "@", " ", "b.c", "\x01", letters(40), ">"),
			Time:  r.Intn(1<<40+1<<35) - 1<<34,
			Zone:  r.Intn(3000) - 1500,
		}
		may := len(i.Name) <= 100 && len(i.Email) <= 100 && !strings.Contains(i.Name, "\n") && !strings.Contains(i.Name, "<") && !strings.Contains(i.Email, ">") && i.Time >= 0 && i.Time <= 1<<40 && i.Zone > -1440 && i.Zone < 1440
		seen[may]++
		if !may {
			wantNoIdent(t, i)
			continue
		}
		s, e := names.PutIdent(i)
		j, e1 := names.ParseIdent(s)
		if e != api.OK || e1 != api.OK || i != j {
			t.Fatalf("%+v is written as %q, error %d, and read as %+v, error %d", i, s, e, j, e1)
		}
		wantPlain(t, s)
	}
	if seen[true] < 5000 || seen[false] < 5000 {
		t.Errorf("idents that may be, and others: %v", seen)
	}
}

// within answers whether a text stands in another one's memory.
func within(part, whole string) bool {
	if part == "" {
		return false
	}
	at, begin := uintptr(unsafe.Pointer(unsafe.StringData(part))), uintptr(unsafe.Pointer(unsafe.StringData(whole)))
	return at >= begin && at < begin+uintptr(len(whole))
}

// The rule 'Memory': an answer shares nothing with the argument or with another answer.
func TestAnswersShareNothing(t *testing.T) {
	text := strings.Repeat("n", 40) + " <" + strings.Repeat("e", 50) + "> 5 +0130"
	i, _ := names.ParseIdent(text)
	j, _ := names.ParseIdent(text)
	for _, s := range []string{i.Name, i.Email} {
		if within(s, text) || within(s, j.Name) || within(s, j.Email) {
			t.Errorf("%q shares memory", s)
		}
	}
	if within(i.Name, i.Email) || within(i.Email, i.Name) {
		t.Error("two parts of one answer share memory")
	}
	first, _ := names.PutIdent(i)
	second, _ := names.PutIdent(i)
	if first != text || second != text || within(first, second) || within(i.Name, first) || within(i.Email, first) {
		t.Error("PutIdent's answer shares memory")
	}
}
