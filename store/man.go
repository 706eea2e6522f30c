package store

import (
	"slices"

	"clerestory/api"
	"clerestory/pack"
	"clerestory/token"
)

const width = 4 // bytes of a man's sum

// man is what the shelf's man says.
type man struct {
	files []int // the numbers of the files that count
	last  int   // the last number that was given
	notes []api.Note
}

// putMan is a man as bytes: a batch's that adds the notes and drops the numbers, the last one that was given behind the files', and their sum. Batches have just what a man needs, and pack reads them to the byte.
func putMan(m man) (string, error) {
	nums := slices.Clone(m.files)
	if m.last > 0 {
		nums = append(nums, m.last)
	}
	b, e := pack.Batch(api.Batch{Add: m.notes, Drop: nums})
	if e != api.OK {
		return "", errBig
	}
	return string(b) + sum(string(b)), nil
}

// getMan is the man that bytes are.
func getMan(s string) (man, error) {
	end := len(s) - width
	if end < 0 || sum(s[:end]) != s[end:] {
		return man{}, errBytes
	}
	b, e := pack.GetBatch([]byte(s[:end]))
	if e != api.OK || len(b.Muts) > 0 {
		return man{}, errBytes
	}
	m := man{files: b.Drop, notes: b.Add}
	if n := len(b.Drop); n > 0 {
		m.files, m.last = b.Drop[:n-1], b.Drop[n-1]
	}
	if !m.may() {
		return man{}, errBytes
	}
	return m, nil
}

// sum is four bytes that tell whether a text is still what it was.
func sum(s string) string {
	return token.Bytes(token.Of(s))
}

// may tells whether a store may have made a man.
func (m man) may() bool {
	for i, n := range m.files {
		if n > m.last || i > 0 && m.files[i-1] >= n {
			return false
		}
	}
	for i, x := range m.notes {
		if i > 0 && m.notes[i-1].ID >= x.ID {
			return false
		}
	}
	return true
}
