package store

import (
	"maps"
	"slices"
	"strings"

	"clerestory/api"
	"clerestory/part"
)

const maxTables = 8

// tables are partitions by their tables' names and their own keys. No table is without a partition.
type tables map[string]map[string]api.Part

// get is a partition; one with nothing but the key, if there is none.
func (t tables) get(name, key string) api.Part {
	if p, there := t[name][key]; there {
		return p
	}
	return api.Part{Key: key}
}

// set puts a partition in its place.
func (t tables) set(name string, p api.Part) {
	if t[name] == nil {
		t[name] = make(map[string]api.Part)
	}
	t[name][p.Key] = p
}

// take puts all partitions of others in their places.
func (t tables) take(others tables) {
	for name, parts := range others {
		for _, p := range parts {
			t.set(name, p)
		}
	}
}

// join is what partitions become with others joined to them, in new memory; false, if there is no room.
func (t tables) join(muts []api.Mut) (tables, bool) {
	turned := make(tables)
	for _, m := range muts {
		key := m.Part.Key
		p, again := turned[m.Table][key]
		if !again {
			p = t.get(m.Table, key)
		}
		p, ok := part.Join(p, m.Part)
		if !ok {
			return nil, false
		}
		turned.set(m.Table, p)
	}
	return turned, t.room(turned)
}

// room tells whether there may be others beside what there is.
func (t tables) room(others tables) bool {
	many := len(t)
	for name, parts := range others {
		if t[name] == nil {
			many++
		}
		if len(t[name])+t.news(name, parts) > api.MaxParts {
			return false
		}
	}
	return many <= maxTables
}

// news is how many partitions a table does not have.
func (t tables) news(name string, parts map[string]api.Part) int {
	n := 0
	for key := range parts {
		if _, there := t[name][key]; !there {
			n++
		}
	}
	return n
}

// names are the tables' names, rising.
func (t tables) names() []string {
	return slices.Sorted(maps.Keys(t))
}

// list are a table's partitions, by their keys.
func (t tables) list(name string) []api.Part {
	return slices.SortedFunc(maps.Values(t[name]), func(a, b api.Part) int {
		return strings.Compare(a.Key, b.Key)
	})
}
