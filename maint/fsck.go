package maint

import (
	"bytes"
	"slices"
	"strings"

	"codicil/agenda"
	"codicil/api"
	"codicil/filelist"
	"codicil/loose"
	"codicil/object"
	"codicil/odb"
	"codicil/pack"
	"codicil/packidx"
	"codicil/repo"
	"codicil/sha"
)

const (
	objectFolder = "objects/"
	branchFolder = "refs/heads/"
	stashFolder  = "refs/stash/"
	headName     = "HEAD"
	tablesPath   = "reftable/tables.list"
)

// Problem is what isn't well, and where: a file, or a reference.
type Problem struct {
	Path string
	E    api.Errno
}

// Fsck answers what isn't well.
func Fsck(files []api.File) []Problem {
	if !filelist.InOrder(files) {
		return []Problem{{E: api.ErrForm}}
	}
	c := &check{files: files, kinds: map[api.Id]api.Kind{}, told: map[string]struct{}{}}
	c.places()
	c.objects()
	c.repository()
	return c.problems
}

// check is what has been found out of files in order.
type check struct {
	files    []api.File
	kinds    map[api.Id]api.Kind // of the objects that are got and in form
	problems []Problem
	told     map[string]struct{} // the problems' paths
}

// tell puts a problem down, if there is one, and the path has none yet: so one thing that is wrong doesn't become more
// problems by all that leads to it.
func (c *check) tell(path string, errno api.Errno) {
	if _, is := c.told[path]; is || errno == api.OK {
		return
	}
	c.told[path] = struct{}{}
	c.problems = append(c.problems, Problem{Path: strings.Clone(path), E: errno})
}

// places asks whether each file under objects/ is what may stand there.
func (c *check) places() {
	indices := map[string]struct{}{}
	for _, f := range c.files {
		if index, is := odb.IndexPath(f.Path); is {
			indices[index] = struct{}{}
			c.tell(f.Path, c.packError(f, index))
		}
	}
	for i, f := range c.files {
		_, isPack := odb.IndexPath(f.Path)
		_, isIndex := indices[f.Path]
		if strings.HasPrefix(f.Path, objectFolder) && !isPack && !isIndex && !isPlace(c.files[i:i+1]) {
			c.tell(f.Path, api.ErrName)
		}
	}
}

// isPlace answers whether the one file that there is has the place of an id. Whether it has that object is asked with all others.
func isPlace(file []api.File) bool {
	ids, errno := loose.Ids(file)
	return errno == api.OK && len(ids) == 1
}

// packError answers what is wrong with a pack file and its index.
func (c *check) packError(f api.File, index string) api.Errno {
	found, errno := pack.Read(f.Data)
	if errno != api.OK {
		return errno
	}
	at, there := filelist.Find(c.files, index)
	if !there {
		return api.ErrNone
	}
	rows, end, errno := packidx.Parse(c.files[at].Data)
	switch {
	case errno != api.OK:
		return errno
	case !slices.Equal(rows, rowsOf(found)) || !bytes.HasSuffix(f.Data, end[:]):
		return api.ErrSum
	}
	return api.OK
}

// rowsOf answers the rows that the index of a pack's objects has.
func rowsOf(found []pack.Found) []packidx.Row {
	rows := make([]packidx.Row, 0, len(found))
	for _, f := range found {
		rows = append(rows, packidx.Row{Id: f.Id, Crc: f.Crc, At: uint64(f.At)})
	}
	slices.SortFunc(rows, func(a, b packidx.Row) int { return sha.Compare(a.Id, b.Id) })
	return rows
}

// objects asks whether all objects are in form, and have what they link to.
func (c *check) objects() {
	// The files are in order: there are no errors.
	ids, _ := odb.Ids(c.files)
	var linked []way
	odb.Reading(c.files, func(get odb.Getter) api.Errno {
		for _, id := range ids {
			links, errno := c.object(get, id)
			c.tell(loose.Place(id), errno)
			linked = append(linked, links...)
		}
		return api.OK
	})
	for _, w := range linked {
		c.tell(loose.Place(w.id), c.missing(w))
	}
}

// object asks whether the object of an id is in form, and answers where it leads.
func (c *check) object(get odb.Getter, id api.Id) ([]way, api.Errno) {
	o, errno := get(id)
	if errno != api.OK {
		return nil, errno
	}
	// This has Check's error.
	links, errno := object.Links(o)
	if errno != api.OK {
		return nil, errno
	}
	c.kinds[id] = o.Kind
	list := make([]way, 0, len(links))
	for _, l := range links {
		list = append(list, way{id: l.Id, kind: l.Kind})
	}
	return list, api.OK
}

// missing answers what is wrong with what a way leads to: it isn't there, or has another kind.
func (c *check) missing(w way) api.Errno {
	kind, there := c.kinds[w.id]
	switch {
	case !there:
		return api.ErrNone
	case w.kind != 0 && w.kind != kind:
		return api.ErrType
	}
	return api.OK
}

// repository asks whether the repository opens, and whether its references and roots are well.
func (c *check) repository() {
	r, errno := repo.Open(c.files)
	if errno != api.OK {
		c.tell(tablesPath, errno)
		return
	}
	for _, ref := range r.Refs {
		c.tell(ref.Name, c.refError(ref))
	}
	plan, _, errno := agenda.Of(c.files)
	c.tell(repo.SeqPath, errno)
	roots, errno := rootsOf(r, plan)
	c.tell(tablesPath, errno)
	for _, id := range roots {
		c.tell(loose.Place(id), c.missing(way{id: id}))
	}
}

// refError answers what is wrong with a reference.
func (c *check) refError(ref api.Ref) api.Errno {
	isBranch := strings.HasPrefix(ref.Name, branchFolder)
	switch {
	case ref.Name == headName:
		if !strings.HasPrefix(ref.Target, branchFolder) {
			return api.ErrName
		}
	case ref.Target != "":
		return api.ErrForm
	case isBranch || strings.HasPrefix(ref.Name, stashFolder):
		return c.missing(way{id: ref.Id, kind: api.Commit})
	}
	return api.OK
}
