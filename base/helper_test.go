package base_test

import (
	"bytes"
	"crypto/sha256"
	"encoding/hex"
	"fmt"
	"maps"
	"reflect"
	"slices"
	"strconv"
	"strings"
	"testing"

	"codicil/api"
	"codicil/base"
	"codicil/loose"
	"codicil/odb"
)

// idOf answers the id of an object, idsOf those of several.
func idOf(o api.Object) api.Id {
	word := []string{"", "commit", "tree", "blob", "tag"}[o.Kind]
	return sha256.Sum256(append([]byte(word+" "+strconv.Itoa(len(o.Data))+"\x00"), o.Data...))
}

func idsOf(list ...api.Object) []api.Id {
	var ids []api.Id
	for _, o := range list {
		ids = append(ids, idOf(o))
	}
	return ids
}

// commit answers a commit with a message, its committer's time, and the ids of its parents.
func commit(message string, time int, parents ...api.Id) api.Object {
	text := "tree " + strings.Repeat("0", 64) + "\n"
	for _, id := range parents {
		text += "parent " + hex.EncodeToString(id[:]) + "\n"
	}
	// The author's time is of no account: it is another one, which falls where the committer's rises.
	return api.Object{Kind: api.Commit, Data: []byte(text + "author  <> " + strconv.Itoa(1000000-time) + " +0000\ncommitter  <> " + strconv.Itoa(time) + " +0000\n\n" + message)}
}

// blob answers a blob.
func blob(text string) api.Object { return api.Object{Kind: api.Blob, Data: []byte(text)} }

// broken answers an object of the kind of commits that is none.
func broken(text string) api.Object { return api.Object{Kind: api.Commit, Data: []byte(text)} }

// own answers files of their own for objects, in order.
func own(list ...api.Object) []api.File {
	state := map[string][]byte{}
	for _, o := range list {
		p, e := loose.Pack(o)
		if e != api.OK {
			panic(fmt.Sprintf("Pack: error %d", e))
		}
		state[loose.Place(idOf(o))] = p
	}
	var files []api.File
	for _, path := range slices.Sorted(maps.Keys(state)) {
		files = append(files, api.File{Path: path, Data: state[path]})
	}
	return files
}

// packed answers files in which all objects stand in one pack.
func packed(t *testing.T, list ...api.Object) []api.File {
	t.Helper()
	files := own(list...)
	ids, _ := odb.Ids(files)
	changes, e := odb.Repack(files, ids)
	if e != api.OK {
		t.Fatalf("Repack: error %d", e)
	}
	behind, e := odb.Made(files, changes)
	if e != api.OK {
		t.Fatalf("Made: error %d", e)
	}
	return behind
}

// bothWays answers objects with files of their own, and in a pack.
func bothWays(t *testing.T, list ...api.Object) [][]api.File {
	t.Helper()
	return [][]api.File{own(list...), packed(t, list...)}
}

// changed answers files in which the object's file has other bytes.
func changed(files []api.File, o api.Object, make func(p []byte) []byte) []api.File {
	files = slices.Clone(files)
	at := slices.IndexFunc(files, func(f api.File) bool { return f.Path == loose.Place(idOf(o)) })
	files[at].Data = make(bytes.Clone(files[at].Data))
	return files
}

// outOfOrder answers lists of files that are not in order; good stands in each.
func outOfOrder(good api.File) map[string][]api.File {
	return map[string][]api.File{
		"files that fall": {{Path: "z"}, good}, "files that fall behind": {good, {Path: "a"}}, "one path twice": {good, good},
		"an empty path": {{Path: ""}, good}, "a path with ..": {good, {Path: "x/../y"}}, "a path with .git": {{Path: ".git/x"}, good},
	}
}

// rising answers ids by their bytes, each once.
func rising(ids ...api.Id) []api.Id {
	sorted := slices.Clone(ids)
	slices.SortFunc(sorted, func(a, b api.Id) int { return bytes.Compare(a[:], b[:]) })
	return slices.Compact(sorted)
}

// wantCommit fails unless Commit answers that commit.
func wantCommit(t *testing.T, what string, files []api.File, id api.Id, wanted api.Snapshot) {
	t.Helper()
	s, e := base.Commit(files, id)
	if len(s.Parents) == 0 {
		s.Parents = wanted.Parents[:0]
	}
	if e != api.OK || !reflect.DeepEqual(s, wanted) {
		t.Errorf("Commit, %s: %.300q, error %d, wanted %.300q", what, fmt.Sprint(s), e, fmt.Sprint(wanted))
	}
}

// wantNoCommit fails unless Commit answers that error alone.
func wantNoCommit(t *testing.T, what string, files []api.File, id api.Id, wanted api.Errno) {
	t.Helper()
	if s, e := base.Commit(files, id); e != wanted || len(s.Parents) != 0 || !reflect.DeepEqual(s, api.Snapshot{Parents: s.Parents}) {
		t.Errorf("Commit, %s: %.300q, error %d, wanted error %d alone", what, fmt.Sprint(s), e, wanted)
	}
}

// wantWalk fails unless Walk answers these ids, in their order.
func wantWalk(t *testing.T, what string, files []api.File, from []api.Id, wanted ...api.Id) {
	t.Helper()
	if ids, e := base.Walk(files, from); e != api.OK || !slices.Equal(ids, wanted) {
		t.Errorf("Walk, %s: %s, error %d, wanted %s", what, brief(ids), e, brief(wanted))
	}
}

// wantWithin fails unless Within answers that.
func wantWithin(t *testing.T, what string, files []api.File, a, b api.Id, wanted bool) {
	t.Helper()
	if is, e := base.Within(files, a, b); e != api.OK || is != wanted {
		t.Errorf("Within, %s: %t, error %d, wanted %t", what, is, e, wanted)
	}
}

// wantBases fails unless Bases answers these ids, rising, and with both exchanged the same.
func wantBases(t *testing.T, what string, files []api.File, a, b api.Id, wanted ...api.Id) {
	t.Helper()
	if ids, e := base.Bases(files, a, b); e != api.OK || !slices.Equal(ids, rising(wanted...)) {
		t.Errorf("Bases, %s: %s, error %d, wanted %s", what, brief(ids), e, brief(rising(wanted...)))
	}
	if ids, e := base.Bases(files, b, a); e != api.OK || !slices.Equal(ids, rising(wanted...)) {
		t.Errorf("Bases, %s, exchanged: %s, error %d, wanted %s", what, brief(ids), e, brief(rising(wanted...)))
	}
}

// wantError fails unless Walk from these ids answers that error alone; so do Within of one id, and Bases of two.
func wantError(t *testing.T, what string, files []api.File, wanted api.Errno, from ...api.Id) {
	t.Helper()
	if ids, e := base.Walk(files, from); len(ids) != 0 || e != wanted {
		t.Errorf("Walk, %s: %s, error %d, wanted error %d alone", what, brief(ids), e, wanted)
	}
	switch len(from) {
	case 1:
		for _, a := range []api.Id{from[0], {}, {1}} {
			if is, e := base.Within(files, a, from[0]); is || e != wanted {
				t.Errorf("Within, %s: %t, error %d, wanted error %d alone", what, is, e, wanted)
			}
		}
		if ids, e := base.Bases(files, from[0], from[0]); len(ids) != 0 || e != wanted {
			t.Errorf("Bases of one commit, %s: %s, error %d, wanted error %d alone", what, brief(ids), e, wanted)
		}
	case 2:
		if ids, e := base.Bases(files, from[0], from[1]); len(ids) != 0 || e != wanted {
			t.Errorf("Bases, %s: %s, error %d, wanted error %d alone", what, brief(ids), e, wanted)
		}
	}
}

// brief tells ids by their first digits, cut short.
func brief(ids []api.Id) string {
	told := strconv.Itoa(len(ids)) + " ids"
	for _, id := range ids[:min(len(ids), 20)] {
		told += " " + hex.EncodeToString(id[:3])
	}
	return told
}
