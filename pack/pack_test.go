package pack

import (
	"math"
	"math/rand"
	"slices"
	"strconv"
	"strings"
	"testing"

	"clerestory/api"
	"clerestory/part"
)

// xs is a text of so many letters.
func xs(n int) string {
	return strings.Repeat("x", n)
}

// zeros is so many bytes that are 0.
func zeros(n int) string {
	return strings.Repeat("\x00", n)
}

// repeat is a list of so many of one.
func repeat[T any](x T, n int) []T {
	return slices.Repeat([]T{x}, n)
}

// laidNum is a number's bytes, told otherwise than order does.
func laidNum(v int) string {
	s := ""
	for ; v > 0; v /= 256 {
		s = string([]byte{byte(v % 256)}) + s
	}
	return string([]byte{byte(len(s))}) + s
}

// laidText is a text's bytes.
func laidText(s string) string {
	return laidNum(len(s)) + s
}

// laidCell is a cell's bytes.
func laidCell(c api.Cell) string {
	s := laidNum(c.At)
	if c.At > 0 && c.Dead {
		s += "\x01"
	}
	if c.At > 0 && !c.Dead {
		s += "\x00" + laidText(c.Val) + laidNum(c.End)
	}
	return s
}

// laidRow is a row's bytes.
func laidRow(r api.Row) string {
	s := laidText(r.Key) + laidCell(r.Live) + laidNum(r.Gone) + laidNum(r.Shade) + laidNum(len(r.Cols))
	for _, c := range r.Cols {
		s += laidText(c.Name) + laidCell(c.Cell)
	}
	return s
}

// laidPart is a partition's bytes.
func laidPart(p api.Part) string {
	pieces := []string{laidText(p.Key), laidNum(p.Gone), laidNum(len(p.Rows))}
	for _, r := range p.Rows {
		pieces = append(pieces, laidRow(r))
	}
	return strings.Join(pieces, "")
}

// laidBatch is a batch's bytes.
func laidBatch(b api.Batch) string {
	pieces := []string{laidNum(len(b.Muts))}
	for _, m := range b.Muts {
		pieces = append(pieces, laidText(m.Table), laidText(laidPart(m.Part)))
	}
	pieces = append(pieces, laidNum(len(b.Add)))
	for _, n := range b.Add {
		pieces = append(pieces, laidNum(n.ID), laidText(n.Body))
	}
	pieces = append(pieces, laidNum(len(b.Drop)))
	for _, id := range b.Drop {
		pieces = append(pieces, laidNum(id))
	}
	return strings.Join(pieces, "")
}

// sameBatch tells whether two batches are alike.
func sameBatch(a, b api.Batch) bool {
	muts := slices.EqualFunc(a.Muts, b.Muts, func(x, y api.Mut) bool {
		return x.Table == y.Table && part.Same(x.Part, y.Part)
	})
	return muts && slices.Equal(a.Add, b.Add) && slices.Equal(a.Drop, b.Drop)
}

// copiedBatch is a batch in new memory.
func copiedBatch(b api.Batch) api.Batch {
	muts := slices.Clone(b.Muts)
	for i := range muts {
		muts[i].Part = part.Copy(muts[i].Part)
	}
	return api.Batch{Muts: muts, Add: slices.Clone(b.Add), Drop: slices.Clone(b.Drop)}
}

// stamps are numbers next to where they come to have a byte more.
func stamps() []int {
	list := []int{0, 1, 2, 5, 8, 9, 127, 128, 300}
	for k := 8; k < 40; k += 8 {
		list = append(list, 1<<k-1, 1<<k, 1<<k+1)
	}
	return append(list, api.MaxStamp-1, api.MaxStamp)
}

// someStamp is one of those that may be.
func someStamp(r *rand.Rand) int {
	list := stamps()
	return list[r.Intn(len(list))]
}

// someText is a text of at most so many bytes, a few as a rule.
func someText(r *rand.Rand, most int) string {
	n := r.Intn(5)
	if r.Intn(8) == 0 {
		n = r.Intn(most + 1)
	}
	s := make([]byte, n)
	for i := range s {
		s[i] = "\x00\x01\x02\x08\x09a\xc3\xff"[r.Intn(8)]
	}
	return string(s)
}

// someCell is a cell that may be, and is there.
func someCell(r *rand.Rand) api.Cell {
	at := max(1, someStamp(r))
	switch r.Intn(3) {
	case 0:
		return api.Cell{Dead: true, At: at}
	case 1:
		return api.Cell{Val: someText(r, api.MaxText), At: at}
	}
	return api.Cell{Val: someText(r, api.MaxText), At: at, End: someStamp(r)}
}

// somePart is a partition that may be, of at most so many rows.
func somePart(r *rand.Rand, most int) api.Part {
	p := api.Part{Key: someText(r, api.MaxText), Gone: someStamp(r)}
	rows := make(map[string]bool)
	for range r.Intn(most + 1) {
		rows[someText(r, 4*api.MaxText)] = true
	}
	for key := range rows {
		p.Rows = append(p.Rows, api.Row{Key: key})
	}
	slices.SortFunc(p.Rows, func(a, b api.Row) int { return strings.Compare(a.Key, b.Key) })
	for i := range p.Rows {
		x := &p.Rows[i]
		x.Gone, x.Shade = someStamp(r), someStamp(r)
		if r.Intn(2) == 0 {
			x.Live = api.Cell{At: max(1, someStamp(r)), End: someStamp(r)}
		}
		for _, name := range []string{"_", "a", "a0", "long" + xs(96), "é"} {
			if r.Intn(3) == 0 {
				x.Cols = append(x.Cols, api.Col{Name: name, Cell: someCell(r)})
			}
		}
	}
	return p
}

// someBatch is a batch that may be.
func someBatch(r *rand.Rand) api.Batch {
	var b api.Batch
	for range r.Intn(4) {
		b.Muts = append(b.Muts, api.Mut{Table: []string{"t", "_u9", "é", xs(100)}[r.Intn(4)], Part: somePart(r, 3)})
	}
	for range r.Intn(4) {
		b.Add = append(b.Add, api.Note{ID: max(1, someStamp(r)), Body: someText(r, 300)})
	}
	for range r.Intn(4) {
		b.Drop = append(b.Drop, max(1, someStamp(r)))
	}
	return b
}

// refused are partitions that part's Check refuses, each for one thing.
func refused() map[string]api.Part {
	row := func(x api.Row) api.Part { return api.Part{Key: "p", Rows: []api.Row{{Key: "a"}, x}} }
	cell := func(c api.Cell) api.Part { return row(api.Row{Key: "b", Cols: []api.Col{{Name: "c", Cell: c}}}) }
	many := api.Part{Key: "p"}
	for i := range api.MaxRows + 1 {
		many.Rows = append(many.Rows, api.Row{Key: strconv.Itoa(1000 + i)})
	}
	cols := api.Row{Key: "b"}
	for i := range api.MaxCols + 1 {
		cols.Cols = append(cols.Cols, api.Col{Name: string(rune('a' + i)), Cell: api.Cell{At: 1}})
	}
	return map[string]api.Part{
		"a Key of one byte more":       {Key: xs(api.MaxText + 1)},
		"Gone below 0":                 {Gone: -1},
		"the least Gone":               {Gone: math.MinInt},
		"Gone above MaxStamp":          {Gone: api.MaxStamp + 1},
		"the greatest Gone":            {Gone: math.MaxInt},
		"one row more":                 many,
		"keys that fall":               {Rows: []api.Row{{Key: "b"}, {Key: "a"}}},
		"a key twice":                  {Rows: []api.Row{{Key: "a"}, {Key: "a"}}},
		"a row's key of one byte more": row(api.Row{Key: xs(4*api.MaxText + 1)}),
		"a row's Gone below 0":         row(api.Row{Key: "b", Gone: -1}),
		"a row's Gone above MaxStamp":  row(api.Row{Key: "b", Gone: api.MaxStamp + 1}),
		"Shade below 0":                row(api.Row{Key: "b", Shade: -1}),
		"Shade above MaxStamp":         row(api.Row{Key: "b", Shade: api.MaxStamp + 1}),
		"Live with a value":            row(api.Row{Key: "b", Live: api.Cell{Val: "x", At: 1}}),
		"Live dead":                    row(api.Row{Key: "b", Live: api.Cell{Dead: true, At: 1}}),
		"Live of At 0 with an End":     row(api.Row{Key: "b", Live: api.Cell{End: 1}}),
		"one column more":              row(cols),
		"names that fall":              row(api.Row{Key: "b", Cols: []api.Col{{Name: "b", Cell: api.Cell{At: 1}}, {Name: "a", Cell: api.Cell{At: 1}}}}),
		"a name twice":                 row(api.Row{Key: "b", Cols: []api.Col{{Name: "a", Cell: api.Cell{At: 1}}, {Name: "a", Cell: api.Cell{At: 1}}}}),
		"a name that is none":          row(api.Row{Key: "b", Cols: []api.Col{{Name: "A", Cell: api.Cell{At: 1}}}}),
		"an empty name":                row(api.Row{Key: "b", Cols: []api.Col{{Cell: api.Cell{At: 1}}}}),
		"a column's cell that is none": cell(api.Cell{}),
		"a value without a stamp":      cell(api.Cell{Val: "x"}),
		"dead without a stamp":         cell(api.Cell{Dead: true}),
		"a stamp below 0":              cell(api.Cell{Val: "x", At: -1}),
		"a stamp above MaxStamp":       cell(api.Cell{Val: "x", At: api.MaxStamp + 1}),
		"a value of one byte more":     cell(api.Cell{Val: xs(api.MaxText + 1), At: 1}),
		"an End below 0":               cell(api.Cell{Val: "x", At: 1, End: -1}),
		"an End above MaxStamp":        cell(api.Cell{Val: "x", At: 1, End: api.MaxStamp + 1}),
		"dead with a value":            cell(api.Cell{Val: "x", Dead: true, At: 1}),
		"dead with an End":             cell(api.Cell{Dead: true, At: 1, End: 1}),
	}
}

// P9.2

func TestCheckBatch(t *testing.T) {
	mut := api.Mut{Table: "t", Part: api.Part{Key: "p"}}
	for _, x := range []struct {
		what string
		b    api.Batch
		want bool
	}{
		{"nothing", api.Batch{}, true},
		{"empty lists", api.Batch{Muts: []api.Mut{}, Add: []api.Note{}, Drop: []int{}}, true},
		{"one of each", api.Batch{Muts: []api.Mut{mut}, Add: []api.Note{{ID: 1, Body: "x"}}, Drop: []int{1}}, true},
		{"a Mut of nothing but its Table", api.Batch{Muts: []api.Mut{{Table: "t"}}}, true},
		{"63 Muts", api.Batch{Muts: repeat(mut, 63)}, true},
		{"64 Muts", api.Batch{Muts: repeat(mut, 64)}, true},
		{"65 Muts", api.Batch{Muts: repeat(mut, 65)}, false},
		{"as many Muts as there may be notes", api.Batch{Muts: repeat(mut, api.MaxNotes)}, false},
		{"a Table that is empty", api.Batch{Muts: []api.Mut{{}}}, false},
		{"a Table with a great letter", api.Batch{Muts: []api.Mut{{Table: "T"}}}, false},
		{"a Table that begins with a digit", api.Batch{Muts: []api.Mut{{Table: "1t"}}}, false},
		{"a Table with a digit", api.Batch{Muts: []api.Mut{{Table: "t1"}}}, true},
		{"a Table with a letter above 127", api.Batch{Muts: []api.Mut{{Table: "é"}}}, true},
		{"a Table with a byte that is no letter", api.Batch{Muts: []api.Mut{{Table: "t\xff"}}}, false},
		{"a Table with a space", api.Batch{Muts: []api.Mut{{Table: "t t"}}}, false},
		{"a Table of MaxText bytes", api.Batch{Muts: []api.Mut{{Table: xs(api.MaxText)}}}, true},
		{"a Table of one more", api.Batch{Muts: []api.Mut{{Table: xs(api.MaxText + 1)}}}, false},
		{"the second of two Tables is none", api.Batch{Muts: []api.Mut{mut, {}}}, false},
		{"the first of two Tables is none", api.Batch{Muts: []api.Mut{{}, mut}}, false},
		{"one Mut twice", api.Batch{Muts: []api.Mut{mut, mut}}, true},
		{"MaxNotes less one to Add", api.Batch{Add: repeat(api.Note{ID: 1}, api.MaxNotes-1)}, true},
		{"MaxNotes to Add", api.Batch{Add: repeat(api.Note{ID: 1}, api.MaxNotes)}, true},
		{"one more to Add", api.Batch{Add: repeat(api.Note{ID: 1}, api.MaxNotes+1)}, false},
		{"an ID of 0", api.Batch{Add: []api.Note{{Body: "x"}}}, false},
		{"an ID of 1", api.Batch{Add: []api.Note{{ID: 1}}}, true},
		{"an ID below 0", api.Batch{Add: []api.Note{{ID: -1}}}, false},
		{"the least ID", api.Batch{Add: []api.Note{{ID: math.MinInt}}}, false},
		{"an ID of MaxStamp", api.Batch{Add: []api.Note{{ID: api.MaxStamp}}}, true},
		{"an ID above MaxStamp", api.Batch{Add: []api.Note{{ID: api.MaxStamp + 1}}}, false},
		{"the greatest ID", api.Batch{Add: []api.Note{{ID: math.MaxInt}}}, false},
		{"the last of many IDs is none", api.Batch{Add: append(repeat(api.Note{ID: 1}, 99), api.Note{})}, false},
		{"the first of many IDs is none", api.Batch{Add: append([]api.Note{{}}, repeat(api.Note{ID: 1}, 99)...)}, false},
		{"an empty body", api.Batch{Add: []api.Note{{ID: 7}}}, true},
		{"a body of MaxBody bytes", api.Batch{Add: []api.Note{{ID: 7, Body: xs(api.MaxBody)}}}, true},
		{"a body of one more", api.Batch{Add: []api.Note{{ID: 7, Body: xs(api.MaxBody + 1)}}}, false},
		{"a body of bytes that are no letters", api.Batch{Add: []api.Note{{ID: 7, Body: "\xff\x00"}}}, true},
		{"the second of two bodies is too great", api.Batch{Add: []api.Note{{ID: 7}, {ID: 8, Body: xs(api.MaxBody + 1)}}}, false},
		{"IDs that fall, and one twice", api.Batch{Add: []api.Note{{ID: 7}, {ID: 3}, {ID: 7}}}, true},
		{"MaxNotes less one to Drop", api.Batch{Drop: repeat(1, api.MaxNotes-1)}, true},
		{"MaxNotes to Drop", api.Batch{Drop: repeat(1, api.MaxNotes)}, true},
		{"one more to Drop", api.Batch{Drop: repeat(1, api.MaxNotes+1)}, false},
		{"Drop of 0", api.Batch{Drop: []int{0}}, false},
		{"Drop of 1", api.Batch{Drop: []int{1}}, true},
		{"Drop below 0", api.Batch{Drop: []int{-1}}, false},
		{"the least Drop", api.Batch{Drop: []int{math.MinInt}}, false},
		{"Drop of MaxStamp", api.Batch{Drop: []int{api.MaxStamp}}, true},
		{"Drop above MaxStamp", api.Batch{Drop: []int{api.MaxStamp + 1}}, false},
		{"the greatest Drop", api.Batch{Drop: []int{math.MaxInt}}, false},
		{"the second of three to Drop is none", api.Batch{Drop: []int{2, 0, 2}}, false},
		{"Drops that fall, and one twice", api.Batch{Drop: []int{9, 2, 9}}, true},
		{"one ID to Add and to Drop", api.Batch{Add: []api.Note{{ID: 4}}, Drop: []int{4}}, true},
		{"as many of each as there may be", api.Batch{Muts: repeat(mut, 64), Add: repeat(api.Note{ID: 1}, api.MaxNotes), Drop: repeat(1, api.MaxNotes)}, true},
		{"more bytes than MaxFile", api.Batch{Add: repeat(api.Note{ID: 1, Body: xs(api.MaxBody)}, 65)}, true},
	} {
		if got := CheckBatch(x.b); got != x.want {
			t.Errorf("%s: %t", x.what, got)
		}
		if b, e := Batch(x.b); !x.want && (len(b) != 0 || e != api.ErrArg) {
			t.Errorf("%s: put: %d bytes, %d", x.what, len(b), e)
		}
	}
}

func TestCheckBatchOfEachPart(t *testing.T) {
	fine := api.Mut{Table: "t", Part: api.Part{Key: "p", Rows: []api.Row{{Key: "a"}, {Key: "b", Live: api.Cell{At: 3}}}}}
	for _, n := range []int{1, 2, 64} {
		if !CheckBatch(api.Batch{Muts: repeat(fine, n)}) {
			t.Fatalf("%d partitions that may be", n)
		}
		for what, p := range refused() {
			if part.Check(p) {
				t.Fatalf("%s: the partition may be", what)
			}
			for _, i := range []int{0, n / 2, n - 1} {
				b := api.Batch{Muts: repeat(fine, n)}
				b.Muts[i].Part = p
				if CheckBatch(b) {
					t.Errorf("%s, the partition %d of %d: it may be", what, i, n)
				}
				if got, e := Batch(b); len(got) != 0 || e != api.ErrArg {
					t.Errorf("%s, the partition %d of %d: put: %d bytes, %d", what, i, n, len(got), e)
				}
			}
		}
	}
}
