package object_test

import (
	"math/rand"
	"regexp"
	"strings"
	"testing"

	"codicil/api"
	"codicil/names"
	"codicil/object"
	"codicil/sha"
)

// tagFormat is how tags are put and parsed.
func tagFormat() format[api.Label] {
	return format[api.Label]{"Tag", object.PutTag, object.ParseTag}
}

// tagText answers how a tag is written, whatever its kind.
func tagText(l api.Label) string {
	return "object " + digits(l.Target) + "\ntype " + kinds()[l.Kind] + "\ntag " + l.Name + "\ntagger " + identText(l.Tagger) + "\n\n" + l.Message
}

// someTag answers a tag.
func someTag() api.Label {
	return api.Label{Target: idOf(77), Kind: api.Commit, Name: "v1.0", Tagger: someIdents()[1], Message: "one\n\ntwo\n"}
}

// tagForm is a tag's form; lengths and the ident are asked beside it.
var tagForm = regexp.MustCompile(`^object ([0-9a-f]{64})\ntype (commit|tree|blob|tag)\ntag ([^\n\x00]+)\ntagger ([^\n]*)\n\n([^\x00]*)$`)

// plainTag answers by that form which tag a text is.
func plainTag(text string) (api.Label, bool) {
	m := tagForm.FindStringSubmatch(text)
	if m == nil || len(m[3]) > 100 || len(m[5]) > 65536 {
		return api.Label{}, false
	}
	l := api.Label{Name: m[3], Message: m[5]}
	l.Target, _ = sha.Parse(m[1])
	for k, word := range kinds() {
		if word == m[2] {
			l.Kind = k
		}
	}
	var errno api.Errno
	l.Tagger, errno = names.ParseIdent(m[4])
	return l, errno == api.OK
}

// P7.2: how a tag is written, letter by letter, of each kind.
func TestTagLetters(t *testing.T) {
	f := tagFormat()
	l := api.Label{Target: api.Id{0xab}, Kind: api.Commit, Name: "v 1", Tagger: api.Ident{Name: "A B", Email: "a@b", Time: 5, Zone: -90}, Message: "one\n"}
	f.wantText(t, l, "object ab"+strings.Repeat("0", 62)+"\ntype commit\ntag v 1\ntagger A B <a@b> 5 -0130\n\none\n")
	for k, word := range kinds() {
		f.wantText(t, api.Label{Kind: k, Name: "a"}, "object "+strings.Repeat("0", 64)+"\ntype "+word+"\ntag a\ntagger  <> 0 +0000\n\n")
	}
	f.wantNoForm(t, "")
}

// P7.2: kinds that are none.
func TestTagKinds(t *testing.T) {
	f := tagFormat()
	for _, k := range noKinds() {
		l := someTag()
		l.Kind = k
		f.wantNoPut(t, "a kind that is none", l, api.ErrType)
	}
	text := tagText(someTag())
	for _, word := range []string{"", " ", "x", "Commit", "COMMIT", "commits", "commi", "commit ", " commit", "commit\r", "1", "commit tree", "delta", "object", "\x00"} {
		f.wantNoForm(t, strings.Replace(text, "type commit", "type "+word, 1))
	}
}

// P7.2: a tag's names: with no byte, 100 and 101, a byte 0 or a line feed; any other byte may stand there.
func TestTagNames(t *testing.T) {
	f := tagFormat()
	for b := range 256 {
		c := string([]byte{byte(b)})
		for _, name := range []string{c, "a" + c, c + "a", "\xff" + c, letters(50) + c + letters(49), c + letters(99), letters(99) + c} {
			l := someTag()
			l.Name = name
			if b == 0 || b == '\n' {
				f.wantNoPut(t, "a name that is none", l, api.ErrName)
				f.wantNoForm(t, tagText(l))
				continue
			}
			f.wantText(t, l, tagText(l))
		}
	}
	for _, name := range []string{" ", "  ", ".", "..", ".git", "a/b", "a.lock", "tagger  <> 0 +0000", "é", letters(99), letters(100), strings.Repeat("\xff", 100), strings.Repeat("é", 50)} {
		l := someTag()
		l.Name = name
		f.wantText(t, l, tagText(l))
	}
	for _, name := range []string{"", letters(101), letters(5000), strings.Repeat("\xff", 101), strings.Repeat("é", 51), "\n", "\x00", "a\n", "\na"} {
		l := someTag()
		l.Name = name
		f.wantNoPut(t, "a name that is none", l, api.ErrName)
		f.wantNoForm(t, tagText(l))
	}
}

// P7.2: taggers.
func TestTagger(t *testing.T) {
	f := tagFormat()
	for _, i := range someIdents() {
		l := someTag()
		l.Tagger = i
		f.wantText(t, l, tagText(l))
	}
	for _, i := range noIdents() {
		l := someTag()
		l.Tagger = i
		f.wantNoPut(t, "a tagger that is none", l, api.ErrName)
	}
	text := tagText(someTag())
	for _, who := range []string{"", " ", "A", "A B <a@b>", "A B <a@b> 05 -0130", "A B <a@b> 5 -0000", "A B <a@b> 5 -0130 ", "A B <a@b> 1099511627777 +0000", letters(101) + " <> 5 +0000"} {
		f.wantNoForm(t, strings.Replace(text, "A B <a@b> 5 -0130", who, 1))
	}
}

// P7.2: messages with no byte, MaxText and one more, and with a byte 0.
func TestTagMessages(t *testing.T) {
	f := tagFormat()
	for _, m := range messages() {
		l := someTag()
		l.Message = m
		f.wantText(t, l, tagText(l))
	}
	for m, wanted := range wrongMessages() {
		l := someTag()
		l.Message = m
		f.wantNoPut(t, "a wrong message", l, wanted)
		f.wantNoForm(t, tagText(l))
	}
	f.wantLong(t, tagText(someTag()), api.ErrForm)
	f.wantLong(t, "", api.ErrForm)
}

// P7.2: two errors at one time.
func TestTagTwoErrors(t *testing.T) {
	f := tagFormat()
	who := api.Ident{Time: -1}
	long := letters(api.MaxText) + "\x00"
	f.wantNoPut(t, "all that can be wrong", api.Label{Message: long, Tagger: who}, api.ErrLong)
	f.wantNoPut(t, "a message that is too long and a kind", api.Label{Message: long, Name: "a"}, api.ErrLong)
	f.wantNoPut(t, "a message that is too long and a name", api.Label{Message: long, Kind: api.Tag}, api.ErrLong)
	f.wantNoPut(t, "a name, a byte 0 and a kind", api.Label{Message: "\x00"}, api.ErrName)
	f.wantNoPut(t, "a name and a kind", api.Label{}, api.ErrName)
	f.wantNoPut(t, "a tagger and a kind", api.Label{Name: "a", Tagger: who}, api.ErrName)
	f.wantNoPut(t, "a tagger and a byte 0", api.Label{Name: "a", Tagger: who, Kind: api.Tag, Message: "\x00"}, api.ErrName)
	f.wantNoPut(t, "a byte 0 and a kind", api.Label{Name: "a", Message: "\x00"}, api.ErrForm)
}

// P7.2: lines missing, twice, in another order, or such as a tag hasn't.
func TestTagLines(t *testing.T) {
	f := tagFormat()
	text := tagText(someTag())
	wantNoLines(t, f, text, plainTag)
	head, message, _ := strings.Cut(text, "\n\n")
	f.wantNoForm(t, head, head+"\n", head+"\n"+message, head+message, message, "\n"+text, " "+text, head+"\r\n\r\n"+message, head+"\n \n"+message)
	for _, word := range []string{"object", "type", "tag", "tagger"} {
		for _, other := range []string{"", "x", strings.ToUpper(word), word[:len(word)-1], word + "s", word + ":", " " + word, "\t" + word} {
			f.wantNoForm(t, strings.Replace(text, word+" ", other+" ", 1))
		}
		f.wantNoForm(t, strings.Replace(text, word+" ", word+"\t", 1), strings.Replace(text, word+" ", word, 1), strings.Replace(text, word+" ", word+"\n", 1))
	}
}

// P7.2: a target's id in other letters, too short, too long.
func TestTagIds(t *testing.T) {
	l := someTag()
	l.Target = api.Id{0xab, 31: 0xef}
	d, text := digits(l.Target), tagText(l)
	tagFormat().wantText(t, l, text)
	for _, other := range []string{strings.ToUpper(d), strings.Replace(d, "a", "A", 1), d[1:], d[:63], d[:40], d + "0", "", " " + d, d + " ", "g" + d[1:], d[:63] + "\n", d + d} {
		tagFormat().wantNoForm(t, strings.Replace(text, d, other, 1))
	}
}

// P7.2, P7.4: a tag's bytes cut, turned, and with bytes behind.
func TestTagTurned(t *testing.T) {
	for _, l := range []api.Label{someTag(), {Kind: api.Tag, Name: "a"}, {Kind: api.Tree, Name: letters(100), Message: "m", Target: idOf(4)}} {
		tagFormat().wantTurned(t, tagText(l), plainTag)
	}
}

// P7.2, P7.4: tags by chance.
func TestTagsByChance(t *testing.T) {
	r := rand.New(rand.NewSource(4))
	for range 5000 {
		l := api.Label{Target: anyId(r), Kind: api.Kind(1 + r.Intn(4)), Name: "v" + chance(r, 4, "a", " ", "/", "\xff", "tag "), Tagger: anyIdent(r), Message: chance(r, 6, "a", "\n", " ", "\n\n", "tagger ", "\xff", letters(1000))}
		tagFormat().wantText(t, l, tagText(l))
		tagFormat().wantPlain(t, tagText(l), plainTag)
	}
}

// The rule 'Memory', for tags.
func TestTagMemory(t *testing.T) {
	l := someTag()
	l.Name, l.Tagger.Name, l.Tagger.Email, l.Message = letters(40), letters(50), letters(60), letters(70)
	tagFormat().wantOwn(t, l)
	first, _ := object.ParseTag([]byte(tagText(l)))
	second, _ := object.ParseTag([]byte(tagText(l)))
	wantApart(t, first.Name, first.Tagger.Name, first.Tagger.Email, first.Message, second.Name, second.Tagger.Name, second.Tagger.Email, second.Message)
}
