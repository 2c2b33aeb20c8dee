package packidx_test

import (
	"bytes"
	"encoding/base64"
	"slices"
	"testing"

	"codicil/api"
	"codicil/pack"
	"codicil/packidx"
)

// A pack that Git 2.39.5 wrote, and what stands behind the fan in two indices that it made of it: as it makes them by itself,
// and with places above 256 as long ones.
const gitPack = "" +
	"UEFDSwAAAAIAAAAGtSF4nGXQMQqAMBBE0d5T7BHcUaMeRzCCEBKw8fpiF/a3nykeU+6abbR22WHXXfJQ/uAxKIYphjmGJYbUhae9tsbBFsMOF6WgOqwOrEPr4HpCgdhBdpgFs3gvzIJZMAtmwSyYBbN6c67n8AHE" +
	"zKHnngh4nH3KMQ4CIRBG4Z5TTG/jAAOSGLMe5R+YiRYryQbvbyxsfcVXvXWYkUN7qgrJTVBTKRWs4spDL44C7yoRGNwsefSe2T1LQo46vEkMeK/HPOhOV2x6Iz7/otPX0Oe+P9eyP0uYLwsfkfAmt8AIeJw1ijEK" +
	"wzAMAHe/QnsXyZYcBUppn+LIckghpBQTyO+Lh95wt9yxvN06JK3mrlw9M0rMUqymGSPOydki0USaG5m0YqrsiCLCJkY2RUkt9OvjYMe+bz30ssJJI6t/4QX38lweQPgHbsNhDOEHMYsi8qsHeJwzNDAwMzFRSGQI" +
	"e+wqdui2RkeD/8qmYyzzZBjeXLtp4bks8Mj9hdt5DqlMM4QoTGLg+//q/O89jbPtXIwa++y32PyxTrGaZXuum3NldjJPispjqMJkhoyk9KTwbSdecb/yWXdwDc+/peu3CVZ6s745Wio4jeEl7zEAUpw0tW+CT3ic" +
	"m8oyiWVCOUtOZl7qxqrpjAArwwWm7gGCaXicm8oykWWCMXNRfvlEcweWnMy81IlVj1l8PP1cJycybgAAoLAKwD/wFz+71DA+GD2oxt6CK50Sr1keOWbjNa6MpTpXlY8P"

const gitIndex = "" +
	"Dv/qz/u8gZs+RDKBjj+0PPw7ZDqaPc6LCalrYwxkJOM43O6E3mQFJlrNOQIJPkwhFxhvHF+siE4AVVTFwcclP1bjRRbC2yiIgE+pgsYEnhwA7NbZOEmmUcTfobcMwiSWaGJnYle2yOoL6kyuwawM/qWvthF5SwXs" +
	"xXURlgDpDcbYceYig+HSua184m3mUE5c+DrAR/2tOqaVSTUq14lENvq8N7pUlac2Z6G1+x24+mr8tSqtGePy/EH/RTpCvflSuBGWmDcBhdUU4i82oWi2eh7GQchZithxAAAADAAAAHsAAAHbAAAB9QAAAOgAAAFa" +
	"P/AXP7vUMD4YPajG3oIrnRKvWR45ZuM1roylOleVjw8wxhJOYOvk5GD+KZKHhHpN4jVbgU6XjDxU9sB9m6fUlg=="

const gitLongIndex = "" +
	"Dv/qz/u8gZs+RDKBjj+0PPw7ZDqaPc6LCalrYwxkJOM43O6E3mQFJlrNOQIJPkwhFxhvHF+siE4AVVTFwcclP1bjRRbC2yiIgE+pgsYEnhwA7NbZOEmmUcTfobcMwiSWaGJnYle2yOoL6kyuwawM/qWvthF5SwXs" +
	"xXURlgDpDcbYceYig+HSua184m3mUE5c+DrAR/2tOqaVSTUq14lENvq8N7pUlac2Z6G1+x24+mr8tSqtGePy/EH/RTpCvflSuBGWmDcBhdUU4i82oWi2eh7GQchZithxAAAADAAAAHuAAAAAgAAAAQAAAOiAAAAC" +
	"AAAAAAAAAdsAAAAAAAAB9QAAAAAAAAFaP/AXP7vUMD4YPajG3oIrnRKvWR45ZuM1roylOleVjw+X9n5sbVrCKhgPcYAijUR3M2+XgbSqVlybuZpq5pMlHA=="

// decoded answers the bytes of such a text.
func decoded(t *testing.T, text string) []byte {
	t.Helper()
	p, err := base64.StdEncoding.DecodeString(text)
	if err != nil {
		t.Fatal(err)
	}
	return p
}

// gitRows answers the rows of the pack's objects, and the pack's last 32 bytes.
func gitRows(t *testing.T) ([]packidx.Row, api.Id) {
	t.Helper()
	p := decoded(t, gitPack)
	found, e := pack.Read(p)
	if e != api.OK {
		t.Fatalf("Read: error %d", e)
	}
	var rows []packidx.Row
	for _, x := range found {
		rows = append(rows, packidx.Row{Id: x.Id, Crc: x.Crc, At: uint64(x.At)})
	}
	return rows, api.Id(p[len(p)-32:])
}

// whole answers an index of which the text has what stands behind the fan; its last 32 bytes are Git's own sum of all of it.
func whole(t *testing.T, rows []packidx.Row, text string) []byte {
	t.Helper()
	front := lay(rows, api.Id{}).unsealed()[:8+1024]
	p := slices.Concat(front, decoded(t, text))
	if !bytes.Equal(p, anew(p)) {
		t.Fatalf("the fan is another one than Git's")
	}
	return p
}

// P10.1, P3: of a pack that Git wrote the index is built that Git makes of it.
func TestBuildAsGit(t *testing.T) {
	rows, end := gitRows(t)
	p := whole(t, rows, gitIndex)
	if q := mustBuild(t, rows, end); !bytes.Equal(p, q) {
		t.Errorf("Build: %x, wanted %x", q, p)
	}
	wantParsed(t, "Git's index", p, byId(rows), end)
}

// P10.1, P10.2: Git's long places below 2^31 are read; built again, they are short ones.
func TestParseGitLong(t *testing.T) {
	rows, end := gitRows(t)
	p := whole(t, rows, gitLongIndex)
	wantParsed(t, "Git's index with long places", p, byId(rows), end)
	back, _, _ := packidx.Parse(p)
	if q := mustBuild(t, back, end); !bytes.Equal(q, whole(t, rows, gitIndex)) {
		t.Errorf("built again: %x", q)
	}
	for _, row := range rows {
		wantFound(t, p, row)
	}
}
