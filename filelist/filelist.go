// Package filelist is what the layers above the disk ask of files, a whole state as a list: see shared/doc/13-loose.md.
package filelist

import (
	"slices"
	"strings"

	"codicil/api"
	"codicil/names"
)

// InOrder answers whether all paths may be, and rise strictly.
func InOrder(files []api.File) bool {
	for i, f := range files {
		if !names.Path(f.Path) || i > 0 && files[i-1].Path >= f.Path {
			return false
		}
	}
	return true
}

// Find answers the place in the list of the file that a path has, and whether it has one. The files must be in order.
func Find(files []api.File, path string) (int, bool) {
	return slices.BinarySearchFunc(files, path, func(f api.File, path string) int { return strings.Compare(f.Path, path) })
}
