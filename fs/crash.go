package fs

import (
	"bytes"
	"maps"

	"codicil/api"
)

// Crash answers a disk as it may be behind a loss of power at this time.
func (d *Disk) Crash(choices []uint8) (*Disk, api.Errno) {
	if d == nil {
		return nil, api.ErrNone
	}
	next := chooser(choices)
	found := d.survivors(next)
	after := &Disk{quota: d.quota}
	after.lay()
	for _, path := range sortedKeys(found) {
		data := found[path].remains(next)
		f := &file{data: data, synced: len(data)}
		after.names[path], after.lasting[path] = f, f
		after.used += len(data)
	}
	return after, api.OK
}

// chooser answers a function that answers the choices one by one, over and over.
func chooser(choices []uint8) func() int {
	at := 0
	return func() int {
		if len(choices) == 0 {
			return 0
		}
		c := choices[at]
		at = (at + 1) % len(choices)
		return int(c)
	}
}

// survivors answers the names behind the crash: of each folder the pending changes up to a choice have been made.
func (d *Disk) survivors(next func() int) map[string]*file {
	found := maps.Clone(d.lasting)
	for _, folder := range sortedKeys(d.pending) {
		list := d.pending[folder]
		for _, c := range list[:next()%(len(list)+1)] {
			c.apply(found)
		}
	}
	return found
}

// remains answers the bytes of a file behind the crash: what was synced, and of the others so many as are chosen, perhaps
// without what was written into them.
func (f *file) remains(next func() int) []byte {
	loose := len(f.data) - f.synced
	if loose == 0 {
		return bytes.Clone(f.data)
	}
	data := bytes.Clone(f.data[:f.synced+next()%(loose+1)])
	if next()%2 == 1 {
		clear(data[f.synced:])
	}
	return data
}
