package sst

import (
	"clerestory/api"
	"clerestory/pack"
	"clerestory/token"
)

// entry is what the index says of a partition.
type entry struct {
	key  string
	size int // how many bytes it has
}

// file is what a file's bytes are.
type file struct {
	table string
	index []entry
	parts []api.Part
}

// open is what bytes are, if Put is their maker. It reads all of them, whatever is asked for: so each call tells the same of the same bytes.
func open(s string) (file, api.Errno) {
	if len(s) < foot {
		return file{}, api.ErrShort
	}
	end := len(s) - width
	if sum(s[:end]) != s[end:] {
		return file{}, api.ErrSum
	}
	if len(s) > api.MaxFile {
		return file{}, api.ErrBytes
	}
	f, ok := read(s[:end])
	if !ok {
		return file{}, api.ErrBytes
	}
	return f, api.OK
}

// read is what all ahead of the sum is.
func read(s string) (file, bool) {
	end := len(s) - width
	from, ok := token.Number(s[end:])
	if !ok || from > end {
		return file{}, false
	}
	table, index, ok := getIndex([]byte(s[from:end]))
	if !ok {
		return file{}, false
	}
	parts, ok := getParts(s[:from], index)
	if !ok || !may(table, parts) {
		return file{}, false
	}
	return file{table, index, parts}, true
}

// getIndex is the table's name and the entries that all of the bytes are.
func getIndex(b []byte) (string, []entry, bool) {
	num, text, done := reader(b)
	table := text()
	count := num()
	if count > api.MaxParts {
		return "", nil, false
	}
	var index []entry
	for range count {
		index = append(index, entry{key: text(), size: num()})
	}
	return table, index, done()
}

// getParts are the partitions that all of the bytes are, one behind the other, as the index says.
func getParts(s string, index []entry) ([]api.Part, bool) {
	var parts []api.Part
	for _, x := range index {
		if x.size > len(s) {
			return nil, false
		}
		p, e := pack.GetPart([]byte(s[:x.size]))
		if e != api.OK || p.Key != x.key {
			return nil, false
		}
		parts = append(parts, p)
		s = s[x.size:]
	}
	return parts, s == ""
}
