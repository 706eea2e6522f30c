package parse

import (
	"clerestory/api"
)

// walker goes along a statement from the front on, as its tree leads it. A reader fills in what it is led to; a writer writes it down. So the grammar stands once for both.
type walker interface {
	piece(s string)                // words and signs of the grammar
	may(s string, there bool) bool // one that may be there: the reader looks, the writer is told
	name(s *string)                // a table's, a view's, an index's, a column's
	number(n *int)                 // a stamp, a TTL, a limit
	value(t *api.Term)
	must(ok bool) // whether the token gone along last may stand there: the reader asks
}

// reader takes leaves from the front on. It panics at one that is another than must be.
type reader struct {
	leaves []leaf
	next   int
}

// read is the statement that leaves are; else the number of the one that goes wrong.
func read(list []leaf) (x api.Stmt, wrong int, ok bool) {
	r := &reader{leaves: list}
	defer func() {
		if recover() != nil { // at the one that was taken last
			x, wrong, ok = api.Stmt{}, r.next-1, false
		}
	}()
	start(r, &x).lead(r)
	r.may(";", false)
	r.must(r.take() == nil)
	return x, 0, true
}

// look is the next leaf; nil at the end.
func (r *reader) look() leaf {
	if r.next < len(r.leaves) {
		return r.leaves[r.next]
	}
	return nil
}

func (r *reader) take() leaf {
	l := r.look()
	r.next++
	return l
}

func (r *reader) must(ok bool) {
	if !ok {
		panic("another token than must be")
	}
}

func (r *reader) piece(s string) {
	for _, l := range fixed(s) {
		r.must(r.take() == l)
	}
}

func (r *reader) may(s string, _ bool) bool {
	there := r.look() == fixed(s)[0]
	if there {
		r.take()
	}
	return there
}

func (r *reader) name(s *string) {
	w := r.take().(word)
	r.must(w.free())
	*s = string(w)
}

func (r *reader) number(n *int) {
	*n = int(r.take().(number))
	r.must(*n >= 1 && *n <= api.MaxStamp)
}

func (r *reader) value(t *api.Term) {
	l := r.take()
	if n, ok := l.(number); ok {
		*t = api.Term{Type: api.Int, N: int(n)}
		return
	}
	*t = api.Term{Type: api.Text, S: string(l.(text))}
}

// writer writes leaves behind each other, in as many bytes as print's text has.
type writer struct {
	bytes []byte
	tight bool // no blank comes next
}

// write is a text of which, if of any, a statement is what Parse makes.
func write(x api.Stmt) string {
	w := &writer{tight: true}
	start(w, &x).lead(w)
	return string(w.bytes)
}

func (w *writer) put(l leaf) {
	if !w.tight && l != leaf(sign(")")) && l != leaf(sign(",")) && l != leaf(sign(";")) {
		w.bytes = append(w.bytes, ' ')
	}
	w.bytes = append(w.bytes, l.written()...)
	w.tight = l == leaf(sign("("))
}

func (w *writer) must(bool) {}

func (w *writer) piece(s string) {
	for _, l := range fixed(s) {
		w.put(l)
	}
}

func (w *writer) may(s string, there bool) bool {
	if there {
		w.piece(s)
	}
	return there
}

func (w *writer) name(s *string) {
	w.put(word(*s))
}

func (w *writer) number(n *int) {
	w.put(number(*n))
}

func (w *writer) value(t *api.Term) {
	if t.Type == api.Int {
		w.put(number(t.N))
		return
	}
	w.put(text(t.S))
}
