package odb

import (
	"bytes"
	"strings"

	"codicil/api"
	"codicil/filelist"
	"codicil/pack"
	"codicil/packidx"
	"codicil/sha"
	"codicil/txfile"
)

const (
	objectFolder = "objects/"
	packName     = packFolder + "pack-" // the digits of the pack's sum stand behind it
	shorterWay   = 2                    // of zlib's
)

// Repack answers the changes by which just the objects of keep are there, in one pack.
func Repack(files []api.File, keep []api.Id) ([]txfile.Change, api.Errno) {
	// This is asked first: of all errors here it has the least number.
	if len(keep) > api.MaxObjects {
		return nil, api.ErrLong
	}
	s, errno := openShelf(files)
	if errno != api.OK {
		return nil, errno
	}
	packed, errno := s.packOf(common(s.ids(), keep))
	if errno != api.OK {
		return nil, errno
	}
	return changesTo(files, packed), api.OK
}

// common answers those ids that are among keep, in their order.
func common(ids, keep []api.Id) []api.Id {
	kept := setOf(keep)
	var list []api.Id
	for _, id := range ids {
		if _, is := kept[id]; is {
			list = append(list, id)
		}
	}
	return list
}

// packOf answers the pack file of ids that rise, and its index, in order as files; of no ids none.
func (s *shelf) packOf(ids []api.Id) ([]api.File, api.Errno) {
	if len(ids) == 0 {
		return nil, api.OK
	}
	items := make([]pack.Item, 0, len(ids))
	for _, id := range ids {
		o, errno := s.get(id)
		if errno != api.OK {
			return nil, errno
		}
		items = append(items, pack.Item{Kind: int(o.Kind), Data: o.Data})
	}
	data, errno := pack.Write(items, shorterWay)
	if errno != api.OK {
		return nil, errno
	}
	end := api.Id(data[len(data)-len(api.Id{}):])
	name := packName + sha.Hex(end)
	return []api.File{
		{Path: name + indexEnd, Data: indexFor(ids, data, end)},
		{Path: name + packEnd, Data: data},
	}, api.OK
}

// indexFor answers the index of a pack that was written of the objects of these ids, and ends so.
func indexFor(ids []api.Id, data []byte, end api.Id) []byte {
	// What was written is read, and unlike ids that Write had room for have an index: there are no errors.
	pieces, _ := pack.Pieces(data)
	rows := make([]packidx.Row, 0, len(pieces))
	for i, piece := range pieces {
		rows = append(rows, packidx.Row{Id: ids[i], Crc: piece.Crc, At: uint64(piece.At)})
	}
	index, _ := packidx.Build(rows, end)
	return index
}

// changesTo answers the changes by which these are the only files under objects/.
func changesTo(files, wanted []api.File) []txfile.Change {
	var list []txfile.Change
	for _, f := range files {
		_, stays := filelist.Find(wanted, f.Path)
		if !stays && strings.HasPrefix(f.Path, objectFolder) {
			list = append(list, txfile.Change{Path: strings.Clone(f.Path), Gone: true})
		}
	}
	for _, f := range wanted {
		at, there := filelist.Find(files, f.Path)
		if !there || !bytes.Equal(files[at].Data, f.Data) {
			list = append(list, txfile.Change{Path: f.Path, Data: f.Data})
		}
	}
	sortChanges(list)
	return list
}
