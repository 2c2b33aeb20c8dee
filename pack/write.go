package pack

import (
	"codicil/api"
	"codicil/num"
	"codicil/sha"
	"codicil/zlib"
)

// Write answers the bytes of a pack of these items, their data wrapped in that way.
func Write(items []Item, way int) ([]byte, api.Errno) {
	// What is right here no later call refuses: so their errors aren't asked.
	if errno := checkItems(items, way); errno != api.OK {
		return nil, errno
	}
	out, _ := num.PutBig([]byte(mark), uint64(len(items)), countSize)
	begins := make([]int, 0, len(items))
	for _, item := range items {
		at := len(out)
		begins = append(begins, at)
		// The Put calls of num are handed nothing: they would copy all that is ahead each time.
		head, _ := num.PutHead(nil, item.Kind, uint64(len(item.Data)))
		out = append(out, head...)
		switch item.Kind {
		case bySpan:
			out = append(out, num.PutSpan(nil, uint64(at-begins[item.Back]))...)
		case byId:
			out = append(out, item.Base[:]...)
		}
		wrapped, _ := zlib.Wrap(item.Data, way)
		out = append(out, wrapped...)
	}
	sum := sha.Sum(out)
	return append(out, sum[:]...), api.OK
}

// checkItems answers the error of what can't be written, of several the one with the least number.
func checkItems(items []Item, way int) api.Errno {
	if way < 0 || way > 2 {
		return api.ErrArg
	}
	for place, item := range items {
		if item.Kind == bySpan && (item.Back < 0 || item.Back >= place) {
			return api.ErrArg
		}
	}
	if len(items) > api.MaxObjects {
		return api.ErrLong
	}
	for _, item := range items {
		if len(item.Data) > api.MaxData {
			return api.ErrLong
		}
	}
	for _, item := range items {
		if !mayStand(item.Kind) {
			return api.ErrType
		}
	}
	return api.OK
}
