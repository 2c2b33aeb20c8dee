package odb

import (
	"bytes"
	"cmp"
	"slices"
	"strings"

	"codicil/api"
	"codicil/filelist"
	"codicil/loose"
	"codicil/names"
	"codicil/pack"
	"codicil/packidx"
	"codicil/sha"
)

const (
	packFolder = "objects/pack/"
	packEnd    = ".pack"
	indexEnd   = ".idx"
)

// shelf is files in order, and their pack files by paths. It keeps what it has read of a pack: many objects are got of one.
type shelf struct {
	files []api.File
	packs []*packFile
}

// packFile is a pack file and its index, and what has been read of both.
type packFile struct {
	data, index  []byte
	read, parsed bool
	found        []pack.Found
	errno        api.Errno
	rows         []packidx.Row
}

// openShelf answers the shelf of files, if they are in order.
func openShelf(files []api.File) (*shelf, api.Errno) {
	if !filelist.InOrder(files) {
		return nil, api.ErrForm
	}
	s := &shelf{files: files}
	for _, f := range files {
		indexPath, is := IndexPath(f.Path)
		if !is {
			continue
		}
		p := &packFile{data: f.Data}
		if at, there := filelist.Find(files, indexPath); there {
			p.index = files[at].Data
		}
		s.packs = append(s.packs, p)
	}
	return s, api.OK
}

// IndexPath answers the path of a pack file's index, and whether a path is one of a pack file.
func IndexPath(path string) (string, bool) {
	rest, inFolder := strings.CutPrefix(path, packFolder)
	name, ends := strings.CutSuffix(rest, packEnd)
	if !inFolder || !ends || !names.Name(name) {
		return "", false
	}
	return packFolder + name + indexEnd, true
}

// get answers the object of an id.
func (s *shelf) get(id api.Id) (api.Object, api.Errno) {
	if at, there := filelist.Find(s.files, loose.Place(id)); there {
		// That file alone is handed on: the order of all files isn't asked again for each object.
		return loose.Get(s.files[at:at+1], id)
	}
	for _, p := range s.packs {
		if row, there := p.rowOf(id); there {
			return p.get(row)
		}
	}
	return api.Object{}, api.ErrNone
}

// ids answers all ids, rising, each once.
func (s *shelf) ids() []api.Id {
	// A shelf's files are in order: there is no error.
	ids, _ := loose.Ids(s.files)
	for _, p := range s.packs {
		for _, row := range p.allRows() {
			ids = append(ids, row.Id)
		}
	}
	slices.SortFunc(ids, sha.Compare)
	return slices.Compact(ids)
}

// allRows answers the rows of a pack's index; an index that isn't there, or has an error, has none.
func (p *packFile) allRows() []packidx.Row {
	if !p.parsed {
		p.rows, _, _ = packidx.Parse(p.index)
		p.parsed = true
	}
	return p.rows
}

// rowOf answers the row of an id, and whether there is one.
func (p *packFile) rowOf(id api.Id) (packidx.Row, bool) {
	rows := p.allRows()
	place, there := slices.BinarySearchFunc(rows, id, func(row packidx.Row, id api.Id) int { return sha.Compare(row.Id, id) })
	if !there {
		return packidx.Row{}, false
	}
	return rows[place], true
}

// get answers the object that a row of the pack's index leads to.
func (p *packFile) get(row packidx.Row) (api.Object, api.Errno) {
	if !p.read {
		p.found, p.errno = pack.Read(p.data)
		p.read = true
	}
	if p.errno != api.OK {
		return api.Object{}, p.errno
	}
	place, there := slices.BinarySearchFunc(p.found, row.At, func(x pack.Found, at uint64) int { return cmp.Compare(uint64(x.At), at) })
	if !there || p.found[place].Id != row.Id {
		return api.Object{}, api.ErrSum
	}
	// What has been read may be asked for again: each answer is memory of its own.
	o := p.found[place].Object
	return api.Object{Kind: o.Kind, Data: bytes.Clone(o.Data)}, api.OK
}
