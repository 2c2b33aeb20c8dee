package odb_test

import (
	"bytes"
	"math/rand"
	"testing"

	"codicil/api"
	"codicil/odb"
)

// What Reading hands on answers what Get does, asked once and again, of files by chance; Reading answers what use does.
func TestReadingByChance(t *testing.T) {
	r := rand.New(rand.NewSource(20))
	ends := map[api.Errno]int{}
	for range 400 {
		files := anyState(r).files()
		answer := api.Errno(r.Intn(3))
		e := odb.Reading(files, func(get odb.Getter) api.Errno {
			ids := append(allIds(), allIds()...)
			r.Shuffle(len(ids), func(i, j int) { ids[i], ids[j] = ids[j], ids[i] })
			for _, id := range ids {
				wanted, we := odb.Get(files, id)
				ends[we]++
				if o, e := get(id); e != we || o.Kind != wanted.Kind || !bytes.Equal(o.Data, wanted.Data) {
					t.Fatalf("the kind %d, %q, error %d, wanted the kind %d, %q, error %d", o.Kind, o.Data, e, wanted.Kind, wanted.Data, we)
				}
			}
			return answer
		})
		if e != answer {
			t.Fatalf("Reading: error %d, wanted %d", e, answer)
		}
	}
	if ends[api.OK] < 500 || len(ends) < 4 {
		t.Errorf("too little was tried: %v", ends)
	}
}

// Of files that are not in order Reading hands nothing on.
func TestReadingRefused(t *testing.T) {
	for what, files := range outOfOrder(own(blob("abc"))[0]) {
		e := odb.Reading(files, func(odb.Getter) api.Errno {
			t.Errorf("Reading, %s: something is handed on", what)
			return api.OK
		})
		if e != api.ErrForm {
			t.Errorf("Reading, %s: error %d, wanted ErrForm", what, e)
		}
	}
}

// 'Memory': each object is new memory, and the files stay as they are.
func TestReadingMemory(t *testing.T) {
	was := mixedFiles()
	files := crowded(was)
	odb.Reading(files, func(get odb.Getter) api.Errno {
		for _, text := range []string{"abcdefgh", "ijklmnop"} {
			first, _ := get(blobId(text))
			second, _ := get(blobId(text))
			scratch(second.Data)
			third, _ := get(blobId(text))
			if string(first.Data) != text || string(third.Data) != text {
				t.Error("two answers share memory")
			}
		}
		return api.OK
	})
	wantCrowded(t, "Reading", files, was)
}
