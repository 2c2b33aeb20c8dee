package maint_test

import (
	"bytes"
	"regexp"
	"slices"
	"strings"

	"codicil/api"
	"codicil/index"
	"codicil/loose"
	"codicil/names"
	"codicil/object"
	"codicil/odb"
	"codicil/pack"
	"codicil/packidx"
	"codicil/refs"
	"codicil/sha"
)

// inOrder answers whether files are in order.
func inOrder(files []api.File) bool {
	last := ""
	for _, f := range files {
		if !names.Path(f.Path) || f.Path <= last {
			return false
		}
		last = f.Path
	}
	return true
}

// opens answers the references, the slots and the ids of seq of a repository that opens, whose seq is in form.
func opens(files []api.File) ([]api.Ref, []api.Slot, []api.Id, bool) {
	if !inOrder(files) {
		return nil, nil, nil, false
	}
	list, e := refs.List(files)
	at := slices.IndexFunc(list, func(r api.Ref) bool { return r.Name == "HEAD" })
	if e != api.OK || at < 0 || list[at].Target == "" {
		return nil, nil, nil, false
	}
	l, e := index.Parse(dataOf(files, "index"))
	if e != api.OK {
		return nil, nil, nil, false
	}
	var ids []api.Id
	if i := slices.IndexFunc(files, func(f api.File) bool { return f.Path == "seq" }); i >= 0 {
		text := string(files[i].Data)
		one := "[0-9a-f]{64}\n"
		if !regexp.MustCompile("\\A(merge\n" + one + one + "|(pick|rebase)\n" + one + "(" + one + ")+)\\z").MatchString(text) {
			return nil, nil, nil, false
		}
		for _, line := range strings.Fields(text)[1:] {
			id, _ := sha.Parse(line)
			ids = append(ids, id)
		}
	}
	return list, l, ids, len(ids) <= 257
}

// plainRoots answers by the chapter's words what Roots does.
func plainRoots(files []api.File) ([]api.Id, api.Errno) {
	list, l, ids, well := opens(files)
	if !well {
		return nil, api.ErrForm
	}
	for _, r := range list {
		ids = append(ids, r.Id)
	}
	notes, _ := refs.AllNotes(files)
	for _, n := range notes {
		ids = append(ids, n.Old, n.New)
	}
	for _, s := range l {
		ids = append(ids, s.Id)
	}
	return rising(ids...), api.OK
}

// plainReach answers by the chapter's words what Reach does.
func plainReach(files []api.File, from []api.Id) ([]api.Id, api.Errno) {
	if !inOrder(files) {
		return nil, api.ErrForm
	}
	queue := []object.Link{}
	for _, id := range from {
		queue = append(queue, object.Link{Id: id})
	}
	seen := map[api.Id]int{}
	var list []api.Id
	for i := 0; i < len(queue); i++ {
		l := queue[i]
		if seen[l.Id]++; seen[l.Id] > 1 {
			continue
		}
		o, e := odb.Get(files, l.Id)
		if e != api.OK {
			return nil, e
		}
		if l.Kind != 0 && o.Kind != l.Kind {
			return nil, api.ErrType
		}
		links, e := object.Links(o)
		if e != api.OK {
			return nil, e
		}
		if list = append(list, l.Id); len(list) > 4096 {
			return nil, api.ErrLong
		}
		queue = append(queue, links...)
	}
	return rising(list...), api.OK
}

// plainGc answers by the chapter's words what Gc does.
func plainGc(files []api.File, now, keep int) ([]api.File, api.Errno) {
	if _, _, _, well := opens(files); !well {
		return nil, api.ErrForm
	}
	if now < 0 || keep < 0 || now > 1099511627776 || keep > 1099511627776 {
		return nil, api.ErrArg
	}
	changes, e := refs.Drop(files, now-keep)
	if e != api.OK {
		return nil, e
	}
	files, _ = odb.Made(files, changes)
	roots, _ := plainRoots(files)
	ids, e := plainReach(files, roots)
	if e != api.OK {
		return nil, e
	}
	if changes, e = odb.Repack(files, ids); e != api.OK {
		return nil, e
	}
	return odb.Made(files, changes)
}

// plainWell answers by the chapter's words whether Fsck tells no problem.
func plainWell(files []api.File) bool {
	list, _, _, well := opens(files)
	if !well {
		return false
	}
	for _, f := range files {
		if strings.HasPrefix(f.Path, "objects/") && !mayStand(files, f) {
			return false
		}
	}
	ids, _ := odb.Ids(files)
	for _, id := range ids {
		o, e := odb.Get(files, id)
		if e != api.OK || object.Check(o) != api.OK {
			return false
		}
		links, _ := object.Links(o)
		for _, l := range links {
			if o, e := odb.Get(files, l.Id); e != api.OK || o.Kind != l.Kind {
				return false
			}
		}
	}
	for _, r := range list {
		if r.Name == "HEAD" {
			if !strings.HasPrefix(r.Target, "refs/heads/") {
				return false
			}
			continue
		}
		isCommit := strings.HasPrefix(r.Name, "refs/heads/") || strings.HasPrefix(r.Name, "refs/stash/")
		if o, _ := odb.Get(files, r.Id); r.Target != "" || isCommit && o.Kind != api.Commit {
			return false
		}
	}
	roots, _ := plainRoots(files)
	for _, id := range roots {
		if _, e := odb.Get(files, id); e != api.OK {
			return false
		}
	}
	return true
}

// mayStand answers whether a file under objects/ is an object, a pack, or the index of one.
func mayStand(files []api.File, f api.File) bool {
	if m := regexp.MustCompile(`\Aobjects/([0-9a-f]{2})/([0-9a-f]{62})\z`).FindStringSubmatch(f.Path); m != nil {
		id, _ := sha.Parse(m[1] + m[2])
		_, e := loose.Get(files, id)
		return e == api.OK
	}
	m := regexp.MustCompile(`(?s)\Aobjects/pack/([^/]+)\.(pack|idx)\z`).FindStringSubmatch(f.Path)
	if m == nil || !names.Name(m[1]) {
		return false
	}
	if m[2] == "idx" {
		return slices.ContainsFunc(files, func(g api.File) bool { return g.Path == "objects/pack/"+m[1]+".pack" })
	}
	found, e := pack.Read(f.Data)
	if e != api.OK {
		return false
	}
	rows, end, e := packidx.Parse(dataOf(files, "objects/pack/"+m[1]+".idx"))
	if e != api.OK || len(rows) != len(found) || !bytes.Equal(end[:], f.Data[len(f.Data)-32:]) {
		return false
	}
	for _, x := range found {
		if !slices.Contains(rows, packidx.Row{Id: x.Id, Crc: x.Crc, At: uint64(x.At)}) {
			return false
		}
	}
	return true
}
