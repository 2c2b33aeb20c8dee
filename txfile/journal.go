package txfile

import (
	"slices"
	"strings"

	"codicil/api"
	"codicil/fs"
	"codicil/num"
)

const (
	dataFolder  = "data/"
	ownFolder   = "tx"
	journalPath = "tx/journal" // changes that are made, if not on the disk yet
	newPath     = "tx/new"     // a journal that doesn't hold yet
	roomPath    = "tx/room"    // bytes that are kept free for the changes
)

// The first byte of a change in a journal.
const (
	goes  = 0
	comes = 1
)

// write puts changes down as a journal. From the moment at which that lasts under its name they are made for good. A
// folder's sync is never refused, so once the name is there, nothing but the power can keep it from lasting.
func write(d *fs.Disk, list []Change) (errno api.Errno) {
	defer func() {
		// Whether or not it came so far, the other files are of no use any more. Of the errors that clearing has each one
		// stands in the chapter's order at or ahead of what kept the commit from being made.
		if left := sweep(d, newPath, roomPath); errno != api.OK && left != api.OK {
			errno = left
		}
	}()
	journal, room := encode(list)
	if errno := put(d, roomPath, make([]byte, room)); errno != api.OK {
		return errno
	}
	if errno := put(d, newPath, journal); errno != api.OK {
		return errno
	}
	if errno := d.Rename(newPath, journalPath); errno != api.OK {
		return errno
	}
	return d.SyncDir(ownFolder)
}

// settle brings the disk up to its journal, if it has one, and clears away what a commit left. The room goes first: with
// it gone, there are the bytes free that the changes need, even if a crash gave back what was removed before.
func settle(d *fs.Disk) api.Errno {
	if errno := sweep(d, newPath, roomPath); errno != api.OK {
		return errno
	}
	journal, errno := d.Read(journalPath)
	if errno == api.ErrNone {
		return api.OK
	}
	if errno != api.OK {
		return errno
	}
	if errno := apply(d, decode(journal)); errno != api.OK {
		return errno
	}
	if errno := sweep(d, journalPath); errno != api.OK {
		return errno
	}
	return d.SyncDir(ownFolder)
}

// apply makes the changes of the disk's files, so that they last. How far they were made before is of no account.
func apply(d *fs.Disk, list []Change) api.Errno {
	var folders []string
	for _, c := range list {
		path := dataFolder + c.Path
		if errno := sweep(d, path); errno != api.OK {
			return errno
		}
		if !c.Gone {
			if errno := put(d, path, c.Data); errno != api.OK {
				return errno
			}
		}
		folders = append(folders, path[:strings.LastIndexByte(path, '/')])
	}
	slices.Sort(folders)
	for _, folder := range slices.Compact(folders) {
		if errno := d.SyncDir(folder); errno != api.OK {
			return errno
		}
	}
	return api.OK
}

// put makes a file whose bytes last.
func put(d *fs.Disk, path string, data []byte) api.Errno {
	if errno := d.Create(path); errno != api.OK {
		return errno
	}
	if errno := d.Append(path, data); errno != api.OK {
		return errno
	}
	return d.Sync(path)
}

// sweep removes those of the files that there are. Whether there is one is asked by Read, which is never refused.
func sweep(d *fs.Disk, paths ...string) api.Errno {
	for _, path := range paths {
		if _, errno := d.Read(path); errno != api.OK {
			continue
		}
		if errno := d.Remove(path); errno != api.OK {
			return errno
		}
	}
	return api.OK
}

// encode answers changes as the bytes of a journal, and how many bytes their files will have. With api.MaxEntries paths
// of maxPath bytes and api.MaxData bytes of files the journal is still one file of the disk.
func encode(list []Change) ([]byte, int) {
	var out []byte
	room := 0
	for _, c := range list {
		if c.Gone {
			out = appendText(append(out, goes), c.Path)
			continue
		}
		out = appendText(append(out, comes), c.Path)
		out = appendText(out, c.Data)
		room += len(c.Data)
	}
	return out, room
}

// appendText puts the size of a text and the text behind out itself.
func appendText[T string | []byte](out []byte, text T) []byte {
	out = append(out, num.PutSize(nil, uint64(len(text)))...)
	return append(out, text...)
}

// decode answers the changes of a journal; of bytes that encode never answers, none.
func decode(journal []byte) []Change {
	var list []Change
	for at := 0; at < len(journal); {
		gone := journal[at] == goes
		path, behind, whole := textAt(journal, at+1)
		var data []byte
		if whole && !gone {
			data, behind, whole = textAt(journal, behind)
		}
		if !whole || journal[at] > comes || !fits(string(path)) {
			return nil
		}
		list = append(list, Change{Path: string(path), Data: data, Gone: gone})
		at = behind
	}
	return list
}

// textAt answers the text whose size stands at at, the place behind it, and whether it is there as a whole.
func textAt(p []byte, at int) ([]byte, int, bool) {
	size, from, errno := num.Size(p, at)
	if errno != api.OK || size > uint64(len(p)-from) {
		return nil, 0, false
	}
	end := from + int(size)
	return p[from:end], end, true
}
