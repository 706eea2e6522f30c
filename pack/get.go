package pack

import (
	"clerestory/api"
	"clerestory/order"
)

// reader goes over bytes from the front on. The first thing that it finds wrong stays its error, and whatever it is asked for behind that is nought: so only who asks for the whole need look at the error.
type reader struct {
	b  []byte
	at int
	e  api.Errno
}

// get is the thing that all of the bytes are, if it may be.
func get[T any](b []byte, ask func(r *reader) T, check func(x T) bool) (T, api.Errno) {
	var nought T
	if len(b) > api.MaxFile {
		return nought, api.ErrBig
	}
	r := reader{b: b}
	x := ask(&r)
	r.end()
	switch {
	case r.e != api.OK:
		return nought, r.e
	case !check(x):
		return nought, api.ErrArg
	}
	return x, api.OK
}

// end finds wrong what is left.
func (r *reader) end() {
	if r.e == api.OK && r.at < len(r.b) {
		r.e = api.ErrBytes
	}
}

// num is a number, whatever it is.
func (r *reader) num() uint64 {
	if r.e != api.OK {
		return 0
	}
	var v uint64
	v, r.at, r.e = order.GetNum(r.b, r.at)
	return v
}

// stamp is a number that may be a stamp.
func (r *reader) stamp() int {
	v := r.num()
	if v > api.MaxStamp {
		r.e = api.ErrBytes
		return 0
	}
	return int(v)
}

// count is how many bytes, or things of at least a byte, come behind it.
func (r *reader) count() int {
	v := r.num()
	if v > uint64(len(r.b)-r.at) {
		r.e = api.ErrShort
		return 0
	}
	return int(v)
}

// bytes are as many as a count says.
func (r *reader) bytes() []byte {
	n := r.count()
	from := r.at
	r.at += n
	return r.b[from:r.at:r.at]
}

// text is a text.
func (r *reader) text() string {
	return string(r.bytes())
}

// dead is whether a cell is dead.
func (r *reader) dead() bool {
	if r.e != api.OK {
		return false
	}
	if r.at == len(r.b) {
		r.e = api.ErrShort
		return false
	}
	x := r.b[r.at]
	r.at++
	if x != alive && x != dead {
		r.e = api.ErrBytes
	}
	return x == dead
}

// getList is as many as a count says, each of which is asked of the reader.
func getList[T any](r *reader, ask func(r *reader) T) []T {
	var all []T
	for range r.count() {
		x := ask(r)
		if r.e != api.OK {
			return nil
		}
		all = append(all, x)
	}
	return all
}

// cell is a cell.
func (r *reader) cell() api.Cell {
	c := api.Cell{At: r.stamp()}
	if c.At == 0 {
		return c
	}
	c.Dead = r.dead()
	if !c.Dead {
		c.Val = r.text()
		c.End = r.stamp()
	}
	return c
}

// col is a column.
func (r *reader) col() api.Col {
	return api.Col{Name: r.text(), Cell: r.cell()}
}

// row is a row.
func (r *reader) row() api.Row {
	return api.Row{Key: r.text(), Live: r.cell(), Gone: r.stamp(), Shade: r.stamp(), Cols: getList(r, (*reader).col)}
}

// part is a partition.
func (r *reader) part() api.Part {
	return api.Part{Key: r.text(), Gone: r.stamp(), Rows: getList(r, (*reader).row)}
}

// inner is a partition that has bytes of its own: it goes just to their end.
func (r *reader) inner() api.Part {
	// a statement of its own: within one, Go may read r.e ahead of the call that finds the error
	b := r.bytes()
	in := reader{b: b, e: r.e}
	p := in.part()
	in.end()
	r.e = in.e
	return p
}

// mut is what is joined to a partition.
func (r *reader) mut() api.Mut {
	return api.Mut{Table: r.text(), Part: r.inner()}
}

// note is a note.
func (r *reader) note() api.Note {
	return api.Note{ID: r.stamp(), Body: r.text()}
}

// batch is a batch.
func (r *reader) batch() api.Batch {
	return api.Batch{Muts: getList(r, (*reader).mut), Add: getList(r, (*reader).note), Drop: getList(r, (*reader).stamp)}
}
