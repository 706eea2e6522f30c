package pack

import (
	"bytes"
	"math/rand"
	"slices"
	"strings"
	"testing"

	"clerestory/api"
	"clerestory/part"
)

// greatest is a partition that has as much of all as there may be.
func greatest() api.Part {
	p := api.Part{Key: xs(api.MaxText), Gone: api.MaxStamp}
	for i := range api.MaxRows {
		r := api.Row{
			Key:   string([]byte{byte(i)}) + xs(4*api.MaxText-1),
			Live:  api.Cell{At: api.MaxStamp, End: api.MaxStamp},
			Gone:  api.MaxStamp,
			Shade: api.MaxStamp,
		}
		for c := range api.MaxCols {
			cell := api.Cell{Val: xs(api.MaxText), At: api.MaxStamp, End: api.MaxStamp}
			r.Cols = append(r.Cols, api.Col{Name: string(rune('a'+c)) + xs(api.MaxText-1), Cell: cell})
		}
		p.Rows = append(p.Rows, r)
	}
	return p
}

// written are partitions, and their bytes written out.
func written() []struct {
	what string
	p    api.Part
	want string
} {
	row := func(r api.Row) api.Part { return api.Part{Rows: []api.Row{r}} }
	col := func(c api.Cell) api.Part { return row(api.Row{Cols: []api.Col{{Name: "n", Cell: c}}}) }
	return []struct {
		what string
		p    api.Part
		want string
	}{
		{"nothing", api.Part{}, "\x00\x00\x00"},
		{"the chapter's", api.Part{Key: "a"}, "\x01\x01\x61\x00\x00"},
		{"a list of no rows", api.Part{Key: "a", Rows: []api.Row{}}, "\x01\x01\x61\x00\x00"},
		{"a Key of any bytes", api.Part{Key: "\x00\xff"}, "\x01\x02\x00\xff\x00\x00"},
		{"the longest Key", api.Part{Key: xs(100)}, "\x01\x64" + xs(100) + "\x00\x00"},
		{"Gone of one byte", api.Part{Gone: 255}, "\x00\x01\xff\x00"},
		{"Gone of two", api.Part{Gone: 300}, "\x00\x02\x01\x2c\x00"},
		{"the last Gone", api.Part{Gone: 1 << 40}, "\x00\x06\x01\x00\x00\x00\x00\x00\x00"},
		{"a row with nothing", row(api.Row{}), "\x00\x00\x01\x01" + "\x00\x00\x00\x00\x00"},
		{"a row with a list of no columns", row(api.Row{Cols: []api.Col{}}), "\x00\x00\x01\x01" + "\x00\x00\x00\x00\x00"},
		{"a row with a Key", row(api.Row{Key: "k\x00"}), "\x00\x00\x01\x01" + "\x01\x02k\x00" + "\x00\x00\x00\x00"},
		{"a row with the longest Key", row(api.Row{Key: xs(400)}), "\x00\x00\x01\x01" + "\x02\x01\x90" + xs(400) + "\x00\x00\x00\x00"},
		{"a row with Live", row(api.Row{Live: api.Cell{At: 5}}), "\x00\x00\x01\x01\x00" + "\x01\x05\x00\x00\x00" + "\x00\x00\x00"},
		{"a row with Live that ends", row(api.Row{Live: api.Cell{At: 5, End: 256}}), "\x00\x00\x01\x01\x00" + "\x01\x05\x00\x00\x02\x01\x00" + "\x00\x00\x00"},
		{"a row that is gone", row(api.Row{Gone: 6}), "\x00\x00\x01\x01\x00\x00" + "\x01\x06" + "\x00\x00"},
		{"a row that is shaded", row(api.Row{Shade: 7}), "\x00\x00\x01\x01\x00\x00\x00" + "\x01\x07" + "\x00"},
		{"a cell of an empty value", col(api.Cell{At: 1}), "\x00\x00\x01\x01\x00\x00\x00\x00\x01\x01" + "\x01\x01n" + "\x01\x01\x00\x00\x00"},
		{"a cell", col(api.Cell{Val: "vv", At: 8}), "\x00\x00\x01\x01\x00\x00\x00\x00\x01\x01" + "\x01\x01n" + "\x01\x08\x00\x01\x02vv\x00"},
		{"a cell that ends", col(api.Cell{Val: "\x00", At: 8, End: 9}), "\x00\x00\x01\x01\x00\x00\x00\x00\x01\x01" + "\x01\x01n" + "\x01\x08\x00\x01\x01\x00\x01\x09"},
		{"a cell that is dead", col(api.Cell{Dead: true, At: 1 << 40}), "\x00\x00\x01\x01\x00\x00\x00\x00\x01\x01" + "\x01\x01n" + "\x06\x01\x00\x00\x00\x00\x00\x01"},
		{
			"all sorts",
			api.Part{Key: "pk", Gone: 4, Rows: []api.Row{
				{Key: ""},
				{Key: "r", Live: api.Cell{At: 258, End: 3}, Gone: 1, Shade: 2, Cols: []api.Col{
					{Name: "a", Cell: api.Cell{Dead: true, At: 3}},
					{Name: "b", Cell: api.Cell{Val: "x", At: 4, End: 5}},
					{Name: "é", Cell: api.Cell{Val: "", At: 6}},
				}},
				{Key: "s", Gone: 9},
			}},
			"\x01\x02pk" + "\x01\x04" + "\x01\x03" +
				"\x00\x00\x00\x00\x00" +
				"\x01\x01r" + "\x02\x01\x02\x00\x00\x01\x03" + "\x01\x01" + "\x01\x02" + "\x01\x03" +
				"\x01\x01a" + "\x01\x03\x01" +
				"\x01\x01b" + "\x01\x04\x00\x01\x01x\x01\x05" +
				"\x01\x02\xc3\xa9" + "\x01\x06\x00\x00\x00" +
				"\x01\x01s" + "\x00" + "\x01\x09" + "\x00" + "\x00",
		},
	}
}

// writtenBatches are batches, and their bytes written out.
func writtenBatches() []struct {
	what string
	b    api.Batch
	want string
} {
	return []struct {
		what string
		b    api.Batch
		want string
	}{
		{"nothing", api.Batch{}, "\x00\x00\x00"},
		{"empty lists", api.Batch{Muts: []api.Mut{}, Add: []api.Note{}, Drop: []int{}}, "\x00\x00\x00"},
		{"a Mut of nothing", api.Batch{Muts: []api.Mut{{Table: "t"}}}, "\x01\x01" + "\x01\x01t" + "\x01\x03\x00\x00\x00" + "\x00\x00"},
		{"a Mut", api.Batch{Muts: []api.Mut{{Table: "tt", Part: api.Part{Key: "a", Gone: 2}}}}, "\x01\x01" + "\x01\x02tt" + "\x01\x06\x01\x01a\x01\x02\x00" + "\x00\x00"},
		{"a Mut of many bytes", api.Batch{Muts: []api.Mut{{Table: "t", Part: api.Part{Rows: []api.Row{{Key: xs(300)}}}}}}, "\x01\x01" + "\x01\x01t" + "\x02\x01\x37" + "\x00\x00\x01\x01" + "\x02\x01\x2c" + xs(300) + "\x00\x00\x00\x00" + "\x00\x00"},
		{"a note of nothing", api.Batch{Add: []api.Note{{ID: 1}}}, "\x00" + "\x01\x01" + "\x01\x01\x00" + "\x00"},
		{"a note", api.Batch{Add: []api.Note{{ID: 300, Body: "b\x00"}}}, "\x00" + "\x01\x01" + "\x02\x01\x2c" + "\x01\x02b\x00" + "\x00"},
		{"the longest note", api.Batch{Add: []api.Note{{ID: 1 << 40, Body: xs(4096)}}}, "\x00" + "\x01\x01" + "\x06\x01\x00\x00\x00\x00\x00" + "\x02\x10\x00" + xs(4096) + "\x00"},
		{"a Drop", api.Batch{Drop: []int{5}}, "\x00\x00" + "\x01\x01" + "\x01\x05"},
		{"the last Drop", api.Batch{Drop: []int{1 << 40}}, "\x00\x00" + "\x01\x01" + "\x06\x01\x00\x00\x00\x00\x00"},
		{"as many as may be dropped", api.Batch{Drop: repeat(2, 300)}, "\x00\x00" + "\x02\x01\x2c" + strings.Repeat("\x01\x02", 300)},
		{
			"several of each, in no order",
			api.Batch{
				Muts: []api.Mut{{Table: "u", Part: api.Part{Key: "b"}}, {Table: "t"}, {Table: "u", Part: api.Part{Key: "b"}}},
				Add:  []api.Note{{ID: 7, Body: "seven"}, {ID: 3}, {ID: 7}},
				Drop: []int{9, 2, 9, 256},
			},
			"\x01\x03" + "\x01\x01u\x01\x05\x01\x01b\x00\x00" + "\x01\x01t\x01\x03\x00\x00\x00" + "\x01\x01u\x01\x05\x01\x01b\x00\x00" +
				"\x01\x03" + "\x01\x07\x01\x05seven" + "\x01\x03\x00" + "\x01\x07\x00" +
				"\x01\x04" + "\x01\x09" + "\x01\x02" + "\x01\x09" + "\x02\x01\x00",
		},
	}
}

// P9.1

func TestPart(t *testing.T) {
	for _, x := range written() {
		if got, e := Part(x.p); string(got) != x.want || e != api.OK {
			t.Errorf("%s: % x, %d", x.what, got, e)
		}
	}
}

func TestPartOfMany(t *testing.T) {
	r := rand.New(rand.NewSource(91))
	for range 5000 {
		p := somePart(r, 6)
		if !part.Check(p) {
			t.Fatalf("%+v may not be", p)
		}
		kept := part.Copy(p)
		if got, e := Part(p); string(got) != laidPart(p) || e != api.OK {
			t.Fatalf("%+v: % x, %d", p, got, e)
		}
		if !part.Same(p, kept) {
			t.Fatalf("%+v: changed to %+v", kept, p)
		}
	}
}

func TestPartOfEachStamp(t *testing.T) {
	for _, n := range stamps() {
		p := api.Part{Gone: n, Rows: []api.Row{{Live: api.Cell{At: 1, End: n}, Gone: n, Shade: n, Cols: []api.Col{{Name: "a", Cell: api.Cell{At: n + 1 - n/api.MaxStamp, End: n}}}}}}
		if got, e := Part(p); string(got) != laidPart(p) || e != api.OK {
			t.Errorf("%d: % x, %d", n, got, e)
		}
	}
}

func TestPartThatMayNotBe(t *testing.T) {
	for what, p := range refused() {
		if got, e := Part(p); len(got) != 0 || e != api.ErrArg {
			t.Errorf("%s: %d bytes, %d", what, len(got), e)
		}
	}
}

func TestPartOfTheGreatest(t *testing.T) {
	// by hand: a column 2+100 + 7+1+2+100+7, a row 3+400 + 7+1+1+7 + 7 + 7 + 2 + 8 columns, all 2+100 + 7 + 2 + 100 rows
	const size = 111 + 100*(435+8*219)
	p := greatest()
	if !part.Check(p) {
		t.Fatal("it may not be")
	}
	got, e := Part(p)
	if len(got) != size || string(got) != laidPart(p) || e != api.OK {
		t.Errorf("%d bytes, %d", len(got), e)
	}
	// so there is no partition that would have more than MaxFile
	if size >= api.MaxFile {
		t.Errorf("%d bytes, as many as MaxFile", size)
	}
	if back, e := GetPart(got); !part.Same(back, p) || e != api.OK {
		t.Errorf("got back: %d rows, %d", len(back.Rows), e)
	}
}

func TestPartOfTooMuch(t *testing.T) {
	// more than MaxFile bytes, of a partition that may not be: what is named first is told
	p := api.Part{Key: "p", Rows: repeat(api.Row{Key: xs(400)}, 1000)}
	if got, e := Part(p); len(got) != 0 || e != api.ErrArg {
		t.Errorf("%d bytes, %d", len(got), e)
	}
}

func TestPutSharesNothing(t *testing.T) {
	p := written()[len(written())-1].p
	b := api.Batch{Muts: []api.Mut{{Table: "t", Part: p}}, Add: []api.Note{{ID: 1, Body: "x"}}, Drop: []int{2}}
	for what, put := range map[string]func() ([]byte, api.Errno){
		"Part":  func() ([]byte, api.Errno) { return Part(p) },
		"Batch": func() ([]byte, api.Errno) { return Batch(b) },
	} {
		first, _ := put()
		second, _ := put()
		want := slices.Clone(second)
		over := first[:cap(first)]
		for i := range over {
			over[i] = 77
		}
		if third, e := put(); !bytes.Equal(second, want) || !bytes.Equal(third, want) || e != api.OK {
			t.Errorf("%s: written over, another answer is % x, % x", what, second, third)
		}
	}
}

// P9.2

func TestBatch(t *testing.T) {
	for _, x := range writtenBatches() {
		if got, e := Batch(x.b); string(got) != x.want || e != api.OK {
			t.Errorf("%s: % x, %d", x.what, got, e)
		}
	}
}

func TestBatchOfMany(t *testing.T) {
	r := rand.New(rand.NewSource(92))
	for range 5000 {
		b := someBatch(r)
		kept := copiedBatch(b)
		if got, e := Batch(b); !CheckBatch(b) || string(got) != laidBatch(b) || e != api.OK {
			t.Fatalf("%+v: % x, %d", b, got, e)
		}
		if !sameBatch(b, kept) {
			t.Fatalf("%+v: changed to %+v", kept, b)
		}
	}
}

func TestBatchOfAsManyAsMayBe(t *testing.T) {
	b := api.Batch{Drop: repeat(api.MaxStamp, api.MaxNotes)}
	r := rand.New(rand.NewSource(93))
	for range 64 {
		b.Muts = append(b.Muts, api.Mut{Table: "t", Part: somePart(r, 2)})
	}
	for i := range api.MaxNotes {
		b.Add = append(b.Add, api.Note{ID: i + 1, Body: xs(i)})
	}
	got, e := Batch(b)
	if string(got) != laidBatch(b) || e != api.OK {
		t.Errorf("%d bytes, %d", len(got), e)
	}
	if back, e := GetBatch(got); !sameBatch(back, b) || e != api.OK {
		t.Errorf("got back: %d, %d, %d, %d", len(back.Muts), len(back.Add), len(back.Drop), e)
	}
}

// filled is a batch of so many bytes, if there is one, that has such Muts ahead of notes.
func filled(muts []api.Mut, size int) (api.Batch, bool) {
	b := api.Batch{Muts: muts, Add: []api.Note{{ID: 1}}}
	left := size - len(laidBatch(b))
	for ; left > api.MaxBody; left = size - len(laidBatch(b)) {
		b.Add[len(b.Add)-1].Body = xs(api.MaxBody)
		b.Add = append(b.Add, api.Note{ID: 1})
	}
	// how many bytes the last body has may itself take none of what is left, or one, or two
	for n := left; n >= max(0, left-2); n-- {
		b.Add[len(b.Add)-1].Body = xs(n)
		if len(laidBatch(b)) == size {
			return b, true
		}
	}
	return api.Batch{}, false
}

func TestBatchOfMaxFile(t *testing.T) {
	for what, muts := range map[string][]api.Mut{
		"notes alone":                nil,
		"a partition and notes":      {{Table: "t", Part: api.Part{Key: "p"}}},
		"the greatest one and notes": {{Table: xs(100), Part: greatest()}},
	} {
		for _, x := range []struct {
			size int
			want api.Errno
		}{
			{api.MaxFile - 1, api.OK},
			{api.MaxFile, api.OK},
			{api.MaxFile + 1, api.ErrBig},
			{api.MaxFile + 2, api.ErrBig},
		} {
			b, ok := filled(muts, x.size)
			if !ok || !CheckBatch(b) {
				t.Fatalf("%s: no batch of %d bytes", what, x.size)
			}
			got, e := Batch(b)
			if e != x.want || e == api.OK && string(got) != laidBatch(b) || e != api.OK && len(got) != 0 {
				t.Errorf("%s, %d bytes: %d bytes, %d", what, x.size, len(got), e)
			}
			back, e := GetBatch([]byte(laidBatch(b)))
			if e != x.want || e == api.OK && !sameBatch(back, b) || e != api.OK && !sameBatch(back, api.Batch{}) {
				t.Errorf("%s, %d bytes: got back: %d", what, x.size, e)
			}
		}
	}
}

func TestBatchOfTooMuch(t *testing.T) {
	for what, b := range map[string]api.Batch{
		"partitions":          {Muts: repeat(api.Mut{Table: "t", Part: greatest()}, 2)},
		"as many as there be": {Muts: repeat(api.Mut{Table: "t", Part: greatest()}, 64), Add: repeat(api.Note{ID: 1, Body: xs(api.MaxBody)}, api.MaxNotes), Drop: repeat(1, api.MaxNotes)},
		"notes":               {Add: repeat(api.Note{ID: 1, Body: xs(api.MaxBody)}, 64)},
	} {
		if got, e := Batch(b); !CheckBatch(b) || len(got) != 0 || e != api.ErrBig {
			t.Errorf("%s: %d bytes, %d", what, len(got), e)
		}
		// what is named first is told
		b.Drop = append(slices.Clone(b.Drop), 0)
		if got, e := Batch(b); len(got) != 0 || e != api.ErrArg {
			t.Errorf("%s, and a Drop that may not be: %d bytes, %d", what, len(got), e)
		}
	}
}
