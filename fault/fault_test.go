package fault_test

import (
	"testing"

	"codicil/api"
	"codicil/fault"
)

// 'The order of errors': of several the one with the least number; OK is none.
func TestLeast(t *testing.T) {
	for _, x := range []struct {
		list   []api.Errno
		wanted api.Errno
	}{
		{nil, api.OK},
		{[]api.Errno{api.OK}, api.OK},
		{[]api.Errno{api.ErrForm}, api.ErrForm},
		{[]api.Errno{api.OK, api.OK}, api.OK},
		{[]api.Errno{api.OK, api.ErrWord}, api.ErrWord},
		{[]api.Errno{api.ErrWord, api.OK}, api.ErrWord},
		{[]api.Errno{api.ErrName, api.ErrLong}, api.ErrLong},
		{[]api.Errno{api.ErrLong, api.ErrName}, api.ErrLong},
		{[]api.Errno{api.ErrName, api.ErrName}, api.ErrName},
		{[]api.Errno{api.OK, api.ErrForm, api.OK, api.ErrArg, api.ErrLong, api.OK}, api.ErrArg},
	} {
		if got := fault.Least(x.list...); got != x.wanted {
			t.Errorf("Least(%v): %d, wanted %d", x.list, got, x.wanted)
		}
	}
}
