package fs_test

import (
	"bytes"
	"slices"
	"strconv"
	"strings"
	"testing"

	"codicil/api"
	"codicil/fs"
)

// newDisk answers a new disk.
func newDisk(t *testing.T, quota int) *fs.Disk {
	t.Helper()
	d, errno := fs.New(quota)
	if d == nil || errno != api.OK {
		t.Fatalf("New(%d): %v, %v", quota, d, errno)
	}
	return d
}

// want fails the test, if a call answered another error.
func want(t *testing.T, what string, got, wanted api.Errno) {
	t.Helper()
	if got != wanted {
		t.Errorf("%s: error %d, wanted %d", what, got, wanted)
	}
}

// told answers all files of a disk as one text.
func told(t *testing.T, d *fs.Disk) string {
	t.Helper()
	list, errno := d.Files()
	want(t, "Files", errno, api.OK)
	return line(list)
}

// line answers files as one text.
func line(list []api.File) string {
	var parts []string
	for _, f := range list {
		parts = append(parts, f.Path+"="+strconv.Quote(string(f.Data)))
	}
	return strings.Join(parts, " ")
}

// wantFiles fails the test, if a disk has other files.
func wantFiles(t *testing.T, what string, d *fs.Disk, wanted string) {
	t.Helper()
	if got := told(t, d); got != wanted {
		t.Errorf("%s: files %s, wanted %s", what, got, wanted)
	}
}

// crash answers what is left of a disk, and fails the test if Crash has an error.
func crash(t *testing.T, d *fs.Disk, choices ...uint8) *fs.Disk {
	t.Helper()
	after, errno := d.Crash(choices)
	if after == nil || errno != api.OK {
		t.Fatalf("Crash(%v): %v, %v", choices, after, errno)
	}
	return after
}

// wantCrash fails the test, if a crash leaves other files.
func wantCrash(t *testing.T, d *fs.Disk, wanted string, choices ...uint8) {
	t.Helper()
	if got := told(t, crash(t, d, choices...)); got != wanted {
		t.Errorf("Crash(%v): files %s, wanted %s", choices, got, wanted)
	}
}

// put makes a file with these bytes.
func put(t *testing.T, d *fs.Disk, path, data string) {
	t.Helper()
	want(t, "Create "+path, d.Create(path), api.OK)
	want(t, "Append "+path, d.Append(path, []byte(data)), api.OK)
}

// putLasting makes a file with these bytes, which last, as its name does.
func putLasting(t *testing.T, d *fs.Disk, path, data string) {
	t.Helper()
	put(t, d, path, data)
	want(t, "Sync "+path, d.Sync(path), api.OK)
	want(t, "SyncDir", d.SyncDir(folderOf(path)), api.OK)
}

// folderOf answers what stands ahead of the last / of a path.
func folderOf(path string) string {
	for i := len(path) - 1; i >= 0; i-- {
		if path[i] == '/' {
			return path[:i]
		}
	}
	return ""
}

// counted answers the six counted calls at these paths, and their names in the same order.
func counted(d *fs.Disk, from, to string, p []byte) ([]func() api.Errno, []string) {
	return []func() api.Errno{
		func() api.Errno { return d.Create(from) },
		func() api.Errno { return d.Append(from, p) },
		func() api.Errno { return d.Sync(from) },
		func() api.Errno { return d.Rename(from, to) },
		func() api.Errno { return d.Remove(from) },
		func() api.Errno { return d.SyncDir(from) },
	}, []string{"Create", "Append", "Sync", "Rename", "Remove", "SyncDir"}
}

// roomy answers a copy of bytes that has spare room, all of it full of a mark.
func roomy(p []byte) []byte {
	q := bytes.Repeat([]byte{0xa5}, len(p)+16)
	copy(q, p)
	return q[:len(p)]
}

// wantRoomy fails the test, if bytes that roomy answered, or their spare room, are others now.
func wantRoomy(t *testing.T, what string, q, p []byte) {
	t.Helper()
	if !slices.Equal(q[:cap(q)], roomy(p)[:len(p)+16]) {
		t.Errorf("%s: what was handed in was changed", what)
	}
}

// scratch overwrites bytes, spare room too.
func scratch(p []byte) {
	for i := range p[:cap(p)] {
		p[:cap(p)][i] = 0x5a
	}
}
