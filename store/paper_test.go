package store

import (
	"cmp"
	"slices"
	"strconv"
	"strings"
	"testing"

	"clerestory/api"
	"clerestory/pack"
	"clerestory/part"
	"clerestory/segment"
	"clerestory/shelf"
)

// xs is a text of so many letters.
func xs(n int) string {
	return strings.Repeat("x", n)
}

// three is a number in three digits.
func three(n int) string {
	return string([]byte{byte('0' + n/100%10), byte('0' + n/10%10), byte('0' + n%10)})
}

// gone is what makes a partition be gone up to a stamp.
func gone(table, key string, at int) api.Mut {
	return api.Mut{Table: table, Part: api.Part{Key: key, Gone: at}}
}

// rows is what gives a partition so many rows, from a number on.
func rows(table, key string, from, many int) api.Mut {
	p := api.Part{Key: key}
	for i := range many {
		p.Rows = append(p.Rows, api.Row{Key: three(from + i), Live: api.Cell{At: 1}})
	}
	return api.Mut{Table: table, Part: p}
}

// great is what gives a partition some 40000 bytes.
func great(table, key string) api.Mut {
	m := rows(table, key, 0, 100)
	for i := range m.Part.Rows {
		for _, name := range []string{"a", "b", "c", "d"} {
			m.Part.Rows[i].Cols = append(m.Part.Rows[i].Cols, api.Col{Name: name, Cell: api.Cell{Val: xs(90), At: 1}})
		}
	}
	return m
}

// muts is a batch of these alone.
func muts(list ...api.Mut) api.Batch {
	return api.Batch{Muts: list}
}

// adds is a batch of these alone.
func adds(list ...api.Note) api.Batch {
	return api.Batch{Add: list}
}

// first are notes of the numbers from 1 on with bodies of so many bytes.
func first(many, size int) []api.Note {
	var list []api.Note
	for i := range many {
		list = append(list, api.Note{ID: i + 1, Body: xs(size)})
	}
	return list
}

// paper is what a store must have, worked out anew from all that was applied, whenever it is asked.
type paper struct {
	batches []api.Batch
}

// text is all that a store must tell.
func (p paper) text() string {
	var parts []api.Mut
	var notes []api.Note
	for _, b := range p.batches {
		for _, m := range b.Muts {
			i := slices.IndexFunc(parts, func(x api.Mut) bool { return x.Table == m.Table && x.Part.Key == m.Part.Key })
			if i < 0 {
				parts = append(parts, m)
				continue
			}
			parts[i].Part, _ = part.Join(parts[i].Part, m.Part)
		}
		for _, id := range b.Drop {
			notes = slices.DeleteFunc(notes, func(x api.Note) bool { return x.ID == id })
		}
		for _, n := range b.Add {
			notes = slices.DeleteFunc(notes, func(x api.Note) bool { return x.ID == n.ID })
			notes = append(notes, n)
		}
	}
	slices.SortFunc(parts, func(a, b api.Mut) int {
		return cmp.Or(cmp.Compare(a.Table, b.Table), cmp.Compare(a.Part.Key, b.Part.Key))
	})
	slices.SortFunc(notes, func(a, b api.Note) int { return cmp.Compare(a.ID, b.ID) })
	text := ""
	for _, m := range parts {
		text += brief(m.Table, m.Part)
	}
	return text + briefNotes(notes)
}

// brief is a table's partition as a text.
func brief(table string, p api.Part) string {
	packed, _ := pack.Part(p)
	return "table " + table + " key " + strconv.Quote(p.Key) + " bytes " + strconv.Quote(string(packed)) + "\n"
}

// briefNotes is notes as a text.
func briefNotes(list []api.Note) string {
	text := ""
	for _, x := range list {
		text += "note " + strconv.Itoa(x.ID) + " " + strconv.Quote(x.Body) + "\n"
	}
	return text
}

// text is all that a store tells. What calls tell of one thing is held against each other.
func text(t *testing.T, s *Store) string {
	t.Helper()
	text := ""
	names := s.Tables()
	if !slices.IsSorted(names) {
		t.Fatalf("Tables: %q", names)
	}
	for _, name := range names {
		parts := s.Parts(name)
		if len(parts) == 0 {
			t.Fatalf("a table without partitions: %s", name)
		}
		for _, p := range parts {
			if !part.Same(p, s.Get(name, p.Key)) {
				t.Fatalf("Get(%s, %q) is not what Parts has", name, p.Key)
			}
			text += brief(name, p)
		}
	}
	for _, x := range s.Notes() {
		if body, ok := s.Note(x.ID); body != x.Body || !ok {
			t.Fatalf("Note(%d): %q, %v", x.ID, body, ok)
		}
	}
	return text + briefNotes(s.Notes())
}

// short is a text with its middle left out.
func short(s string) string {
	if len(s) > 400 {
		return s[:200] + " .. " + s[len(s)-200:]
	}
	return s
}

// has asks whether a store is as it must be.
func has(t *testing.T, what string, s *Store, want string) {
	t.Helper()
	if got := text(t, s); got != want {
		t.Fatalf("%s: %s\nnot %s", what, short(got), short(want))
	}
}

// disk is all that a shelf tells.
func disk(d *shelf.Shelf) string {
	text := "unsynced " + strconv.Itoa(d.Unsynced()) + " man " + strconv.Quote(d.Man()) + " log " + strconv.Quote(d.Log())
	for _, n := range d.Nums() {
		body, _ := d.Get(n)
		text += " file " + strconv.Itoa(n) + " " + strconv.Quote(body)
	}
	return text
}

// told asks whether a call answers what it must.
func told(t *testing.T, what string, got, want api.Errno) {
	t.Helper()
	if got != want {
		t.Fatalf("%s: %d, not %d", what, got, want)
	}
}

// open is the store of a shelf.
func open(t *testing.T, d *shelf.Shelf) *Store {
	t.Helper()
	s, e := Open(d)
	if s == nil || e != api.OK {
		t.Fatalf("Open: %v, %d", s != nil, e)
	}
	return s
}

// with is a store on a new shelf that some batches were applied to, the shelf, and what it must have.
func with(t *testing.T, batches ...api.Batch) (*Store, *shelf.Shelf, string) {
	t.Helper()
	d := shelf.New()
	s := open(t, d)
	for _, b := range batches {
		told(t, "Apply", s.Apply(b), api.OK)
	}
	want := paper{batches}.text()
	has(t, "applied", s, want)
	return s, d, want
}

// refused asks whether Apply of a batch tells an error, and turns nothing.
func refused(t *testing.T, what string, s *Store, d *shelf.Shelf, b api.Batch, want api.Errno) {
	t.Helper()
	was, lay := text(t, s), disk(d)
	told(t, what, s.Apply(b), want)
	has(t, what, s, was)
	if disk(d) != lay {
		t.Fatalf("%s: the shelf is another", what)
	}
}

// stuck asks whether a call that writes files tells ErrBig, and turns nothing.
func stuck(t *testing.T, what string, s *Store, d *shelf.Shelf, call func() api.Errno) {
	t.Helper()
	was, lay := text(t, s), disk(d)
	told(t, what, call(), api.ErrBig)
	has(t, what, s, was)
	if disk(d) != lay {
		t.Fatalf("%s: the shelf is another", what)
	}
}

// fits asks whether Fits answers what it must, and turns nothing.
func fits(t *testing.T, what string, s *Store, b api.Batch, want bool) {
	t.Helper()
	was := text(t, s)
	if got := s.Fits(b); got != want {
		t.Fatalf("%s: Fits: %v", what, got)
	}
	has(t, what, s, was)
}

// logged is batches as a log.
func logged(batches ...api.Batch) []byte {
	var log []byte
	for _, b := range batches {
		body, _ := pack.Batch(b)
		log = segment.Put(log, string(body))
	}
	return log
}
