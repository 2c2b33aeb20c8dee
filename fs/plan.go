package fs

import (
	"codicil/api"
	"codicil/names"
)

// plan is which counted calls fail, and how many there have been.
type plan struct {
	refuse map[int]struct{} // numbers of calls that are refused
	last   int              // the number of the call at which the power goes off
	count  int
	dark   bool // the power is off
}

// Plan says which calls are refused, and at which one the power goes off; counting begins anew.
func (d *Disk) Plan(refuse []int, off int) {
	if d == nil {
		return
	}
	d.refuse, d.last, d.count = map[int]struct{}{}, off, 0
	for _, number := range refuse {
		d.refuse[number] = struct{}{}
	}
}

// Off answers whether the power is off.
func (d *Disk) Off() bool { return d != nil && d.dark }

// Count answers how many calls were counted.
func (d *Disk) Count() int {
	if d == nil {
		return 0
	}
	return d.count
}

// ready answers what stands against every call that needs the power.
func (d *Disk) ready() api.Errno {
	if d == nil {
		return api.ErrNone
	}
	if d.dark {
		return api.ErrOff
	}
	return api.OK
}

// begin counts a call that has these paths, and answers what stands against it, whichever call it is.
func (d *Disk) begin(refusable bool, paths ...string) api.Errno {
	if errno := d.ready(); errno != api.OK {
		return errno
	}
	d.count++
	if d.count == d.last {
		d.dark = true
		return api.ErrOff
	}
	if !oneFolder(paths...) {
		return api.ErrArg
	}
	if _, refused := d.refuse[d.count]; refused && refusable {
		return api.ErrDisk
	}
	return api.OK
}

// oneFolder answers whether all are paths, and of one folder.
func oneFolder(paths ...string) bool {
	for _, path := range paths {
		if !names.Path(path) || folderOf(path) != folderOf(paths[0]) {
			return false
		}
	}
	return true
}
