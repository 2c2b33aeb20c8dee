package fs_test

import (
	"slices"
	"strings"

	"codicil/api"
	"codicil/names"
)

// plainFile is a file of a plainDisk.
type plainFile struct {
	data   []byte
	synced int
}

// plainChange is a change of names: made ("" from), moved, or removed ("" to).
type plainChange struct {
	from, to string
	file     int
	pending  bool
}

// plainDisk is a disk by the chapter's words, which knows all changes of names that there have been, and asks them anew
// each time.
type plainDisk struct {
	quota   int
	files   []plainFile
	changes []plainChange
	refuse  []int
	off     int
	count   int
	isOff   bool
}

// replay answers paths and the numbers of their files, if those changes were made that made tells.
func (d *plainDisk) replay(made func(c plainChange) bool) map[string]int {
	found := map[string]int{}
	for _, c := range d.changes {
		if !made(c) {
			continue
		}
		if c.from != "" {
			delete(found, c.from)
		}
		if c.to != "" {
			found[c.to] = c.file
		}
	}
	return found
}

// now answers the names as they are.
func (d *plainDisk) now() map[string]int {
	return d.replay(func(plainChange) bool { return true })
}

// at answers the number of a path's file, or -1.
func (d *plainDisk) at(path string) int {
	if number, there := d.now()[path]; there {
		return number
	}
	return -1
}

// begin counts a call.
func (d *plainDisk) begin(refusable bool, paths ...string) api.Errno {
	if d.isOff {
		return api.ErrOff
	}
	d.count++
	if d.count == d.off {
		d.isOff = true
		return api.ErrOff
	}
	for _, path := range paths {
		if !names.Path(path) {
			return api.ErrArg
		}
	}
	if len(paths) == 2 && folderOf(paths[0]) != folderOf(paths[1]) {
		return api.ErrArg
	}
	if refusable && slices.Contains(d.refuse, d.count) {
		return api.ErrDisk
	}
	return api.OK
}

func (d *plainDisk) Create(path string) api.Errno {
	if errno := d.begin(true, path); errno != api.OK {
		return errno
	}
	if d.at(path) >= 0 {
		return api.ErrExists
	}
	d.changes = append(d.changes, plainChange{to: path, file: len(d.files), pending: true})
	d.files = append(d.files, plainFile{})
	return api.OK
}

func (d *plainDisk) Append(path string, p []byte) api.Errno {
	if errno := d.begin(true, path); errno != api.OK {
		return errno
	}
	number := d.at(path)
	if number < 0 {
		return api.ErrNone
	}
	if len(d.files[number].data)+len(p) > 2*api.MaxData {
		return api.ErrLong
	}
	all := len(p)
	for _, n := range d.now() {
		all += len(d.files[n].data)
	}
	if all > d.quota {
		return api.ErrFull
	}
	d.files[number].data = append(d.files[number].data, p...)
	return api.OK
}

func (d *plainDisk) Sync(path string) api.Errno {
	if errno := d.begin(true, path); errno != api.OK {
		return errno
	}
	number := d.at(path)
	if number < 0 {
		return api.ErrNone
	}
	d.files[number].synced = len(d.files[number].data)
	return api.OK
}

func (d *plainDisk) Rename(from, to string) api.Errno {
	if errno := d.begin(true, from, to); errno != api.OK {
		return errno
	}
	number := d.at(from)
	if number < 0 {
		return api.ErrNone
	}
	if from != to {
		d.changes = append(d.changes, plainChange{from: from, to: to, file: number, pending: true})
	}
	return api.OK
}

func (d *plainDisk) Remove(path string) api.Errno {
	if errno := d.begin(true, path); errno != api.OK {
		return errno
	}
	number := d.at(path)
	if number < 0 {
		return api.ErrNone
	}
	d.changes = append(d.changes, plainChange{from: path, file: number, pending: true})
	return api.OK
}

func (d *plainDisk) SyncDir(folder string) api.Errno {
	if errno := d.begin(false); errno != api.OK {
		return errno
	}
	for i, c := range d.changes {
		if c.folder() == folder {
			d.changes[i].pending = false
		}
	}
	return api.OK
}

func (d *plainDisk) Plan(refuse []int, off int) {
	d.refuse, d.off, d.count = slices.Clone(refuse), off, 0
}

// list answers all files of these names.
func (d *plainDisk) list(found map[string]int) []api.File {
	var all []api.File
	for path, number := range found {
		all = append(all, api.File{Path: path, Data: slices.Clone(d.files[number].data)})
	}
	slices.SortFunc(all, func(a, b api.File) int { return strings.Compare(a.Path, b.Path) })
	return all
}

// Crash answers the files behind a crash, the disk with them, and how many choices were used.
func (d *plainDisk) Crash(choices []uint8) (*plainDisk, int) {
	used := 0
	next := func() int {
		used++
		if len(choices) == 0 {
			return 0
		}
		return int(choices[(used-1)%len(choices)])
	}
	waiting := map[string]int{}
	for _, c := range d.changes {
		if c.pending {
			waiting[c.folder()]++
		}
	}
	var folders []string
	for folder := range waiting {
		folders = append(folders, folder)
	}
	slices.Sort(folders)
	left := map[string]int{}
	for _, folder := range folders {
		left[folder] = next() % (waiting[folder] + 1)
	}
	found := d.replay(func(c plainChange) bool {
		if !c.pending {
			return true
		}
		left[c.folder()]--
		return left[c.folder()] >= 0
	})
	after := &plainDisk{quota: d.quota}
	for _, f := range d.list(found) {
		old := d.files[found[f.Path]]
		data := f.Data
		if loose := len(old.data) - old.synced; loose > 0 {
			c, e := next()%(loose+1), next()
			data = data[:old.synced+c]
			for i := old.synced; i < len(data) && e%2 == 1; i++ {
				data[i] = 0
			}
		}
		after.changes = append(after.changes, plainChange{to: f.Path, file: len(after.files)})
		after.files = append(after.files, plainFile{data, len(data)})
	}
	return after, used
}

// folder answers the folder whose names a change changes.
func (c plainChange) folder() string {
	if c.from != "" {
		return folderOf(c.from)
	}
	return folderOf(c.to)
}
