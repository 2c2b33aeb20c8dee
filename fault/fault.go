// Package fault is what the layers ask of errors' numbers.
package fault

import "codicil/api"

// Least answers of errors the one with the least number, OK being none.
func Least(list ...api.Errno) api.Errno {
	least := api.OK
	for _, errno := range list {
		if least == api.OK || errno != api.OK && errno < least {
			least = errno
		}
	}
	return least
}
