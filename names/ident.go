package names

import (
	"strconv"
	"strings"

	"codicil/api"
)

const (
	maxWho  = 100     // bytes of an ident's name, and of its email
	maxTime = 1 << 40 // seconds
	maxZone = 1439    // minutes: one less than a day
)

// Ident answers whether i may be an ident.
func Ident(i api.Ident) bool {
	return who(i.Name) && who(i.Email) && i.Time >= 0 && i.Time <= maxTime && i.Zone >= -maxZone && i.Zone <= maxZone
}

// who answers whether s may be an ident's name or email.
func who(s string) bool {
	return len(s) <= maxWho && !strings.ContainsAny(s, "\x00\n<>")
}

// PutIdent answers how i is written.
func PutIdent(i api.Ident) (string, api.Errno) {
	if !Ident(i) {
		return "", api.ErrName
	}
	return i.Name + " <" + i.Email + "> " + strconv.Itoa(i.Time) + " " + zoneText(i.Zone), api.OK
}

// zoneText answers a zone's sign and its four digits.
func zoneText(zone int) string {
	sign := "+"
	if zone < 0 {
		sign, zone = "-", -zone
	}
	// The digit ahead keeps the zeros behind it, and is left out again.
	digits := strconv.Itoa(10000 + zone/60*100 + zone%60)
	return sign + digits[1:]
}

// ParseIdent answers the ident that is written as s.
func ParseIdent(s string) (api.Ident, api.Errno) {
	i := readFields(s)
	if text, errno := PutIdent(i); errno != api.OK || text != s {
		return api.Ident{}, api.ErrForm
	}
	return i, api.OK
}

// The fields of an ident, in the order in which they are written.
const (
	nameField = iota
	emailField
	timeField
	zoneField
)

// readFields reads the fields of s one behind the other, each as if it were in form: only how they would be written tells whether they were.
func readFields(s string) api.Ident {
	var i api.Ident
	text, rest := "", s
	switch first := nameField; first {
	case nameField:
		text, rest, _ = strings.Cut(rest, " <")
		i.Name = strings.Clone(text)
		fallthrough
	case emailField:
		text, rest, _ = strings.Cut(rest, "> ")
		i.Email = strings.Clone(text)
		fallthrough
	case timeField:
		text, rest, _ = strings.Cut(rest, " ")
		i.Time = number(text)
		fallthrough
	case zoneField:
		digits := number(rest)
		i.Zone = digits/100*60 + digits%100
	}
	return i
}

// number answers the number that s is in decimal digits with its sign; what is none is written otherwise than it was, whatever stands for it.
func number(s string) int {
	n, _ := strconv.Atoi(s)
	return n
}
