package pack

import (
	"clerestory/api"
	"clerestory/order"
)

// put is a thing that may be as bytes.
func put[T any](x T, check func(x T) bool, lay func(b []byte, x T) []byte) ([]byte, api.Errno) {
	if !check(x) {
		return nil, api.ErrArg
	}
	b := lay(nil, x)
	if len(b) > api.MaxFile {
		return nil, api.ErrBig
	}
	return b, api.OK
}

// putNum is a number behind bytes.
func putNum(b []byte, v int) []byte {
	// Num is asked for the number alone: behind b it would make all of b anew
	return append(b, order.Num(nil, uint64(v))...)
}

// putText is a text behind bytes.
func putText(b []byte, s string) []byte {
	return append(putNum(b, len(s)), s...)
}

// putList is how many there are, and each, behind bytes.
func putList[T any](b []byte, all []T, lay func(b []byte, x T) []byte) []byte {
	b = putNum(b, len(all))
	for _, x := range all {
		b = lay(b, x)
	}
	return b
}

// putCell is a cell behind bytes.
func putCell(b []byte, c api.Cell) []byte {
	b = putNum(b, c.At)
	switch {
	case c.At == 0:
		return b
	case c.Dead:
		return append(b, dead)
	}
	return putNum(putText(append(b, alive), c.Val), c.End)
}

// putCol is a column behind bytes.
func putCol(b []byte, c api.Col) []byte {
	return putCell(putText(b, c.Name), c.Cell)
}

// putRow is a row behind bytes.
func putRow(b []byte, r api.Row) []byte {
	b = putCell(putText(b, r.Key), r.Live)
	return putList(putNum(putNum(b, r.Gone), r.Shade), r.Cols, putCol)
}

// putPart is a partition behind bytes.
func putPart(b []byte, p api.Part) []byte {
	return putList(putNum(putText(b, p.Key), p.Gone), p.Rows, putRow)
}

// putMut is what is joined to a partition behind bytes.
func putMut(b []byte, m api.Mut) []byte {
	return putText(putText(b, m.Table), string(putPart(nil, m.Part)))
}

// putNote is a note behind bytes.
func putNote(b []byte, n api.Note) []byte {
	return putText(putNum(b, n.ID), n.Body)
}

// putBatch is a batch behind bytes.
func putBatch(b []byte, x api.Batch) []byte {
	b = putList(b, x.Muts, putMut)
	return putList(putList(b, x.Add, putNote), x.Drop, putNum)
}
