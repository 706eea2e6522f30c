package pack

import (
	"bytes"
	"math/rand"
	"slices"
	"strconv"
	"strings"
	"testing"

	"clerestory/api"
	"clerestory/part"
)

// front is what is still to be read; what is wrong first is thrown. It tells otherwise than a reader does what bytes are.
type front string

func (f *front) take(n int) string {
	s := string(*f)
	if n > len(s) {
		panic(api.ErrShort)
	}
	*f = front(s[n:])
	return s[:n]
}

func (f *front) number() uint64 {
	n := int(f.take(1)[0])
	if n > 8 || n > 0 && strings.HasPrefix(string(*f), "\x00") {
		panic(api.ErrBytes)
	}
	v := uint64(0)
	for _, x := range []byte(f.take(n)) {
		v = v*256 + uint64(x)
	}
	return v
}

func (f *front) stamp() int {
	v := f.number()
	if v > 1<<40 {
		panic(api.ErrBytes)
	}
	return int(v)
}

func (f *front) count() int {
	v := f.number()
	if v > uint64(len(*f)) {
		panic(api.ErrShort)
	}
	return int(v)
}

func (f *front) cell() (c api.Cell) {
	if c.At = f.stamp(); c.At == 0 {
		return c
	}
	switch f.take(1) {
	case "\x00":
		c.Val = f.take(f.count())
		c.End = f.stamp()
	case "\x01":
		c.Dead = true
	default:
		panic(api.ErrBytes)
	}
	return c
}

func (f *front) partition() (p api.Part) {
	p.Key = f.take(f.count())
	p.Gone = f.stamp()
	for range f.count() {
		r := api.Row{Key: f.take(f.count())}
		r.Live = f.cell()
		r.Gone = f.stamp()
		r.Shade = f.stamp()
		for range f.count() {
			name := f.take(f.count())
			r.Cols = append(r.Cols, api.Col{Name: name, Cell: f.cell()})
		}
		p.Rows = append(p.Rows, r)
	}
	f.done()
	return p
}

func (f *front) batch() (b api.Batch) {
	for range f.count() {
		m := api.Mut{Table: f.take(f.count())}
		inner := front(f.take(f.count()))
		m.Part = inner.partition()
		b.Muts = append(b.Muts, m)
	}
	for range f.count() {
		id := f.stamp()
		b.Add = append(b.Add, api.Note{ID: id, Body: f.take(f.count())})
	}
	for range f.count() {
		b.Drop = append(b.Drop, f.stamp())
	}
	f.done()
	return b
}

func (f *front) done() {
	if *f != "" {
		panic(api.ErrBytes)
	}
}

// told is what bytes are, and which error, by what reads their front.
func told[T any](b []byte, read func(f *front) T, check func(x T) bool) (x T, e api.Errno) {
	if len(b) > 1<<18 {
		return x, api.ErrBig
	}
	defer func() {
		if wrong := recover(); wrong != nil {
			var nought T
			x, e = nought, wrong.(api.Errno)
		}
	}()
	f := front(b)
	x = read(&f)
	if !check(x) {
		panic(api.ErrArg)
	}
	return x, api.OK
}

// gotPart holds GetPart against what bytes are, and puts back what is got; it answers the error.
func gotPart(t *testing.T, b []byte) api.Errno {
	t.Helper()
	kept := slices.Clone(b)
	want, e := told(b, (*front).partition, part.Check)
	got, gotE := GetPart(b)
	if !part.Same(got, want) || gotE != e {
		t.Fatalf("GetPart(%x): %+v, %d, not %+v, %d", b, got, gotE, want, e)
	}
	if back, backE := Part(got); e == api.OK && (!bytes.Equal(back, b) || backE != api.OK) {
		t.Fatalf("GetPart(%x): put: %x, %d", b, back, backE)
	}
	if !bytes.Equal(b, kept) {
		t.Fatalf("GetPart(%x): changed to %x", kept, b)
	}
	return e
}

// gotBatch holds GetBatch against what bytes are, and puts back what is got; it answers the error.
func gotBatch(t *testing.T, b []byte) api.Errno {
	t.Helper()
	kept := slices.Clone(b)
	want, e := told(b, (*front).batch, CheckBatch)
	got, gotE := GetBatch(b)
	if !sameBatch(got, want) || gotE != e {
		t.Fatalf("GetBatch(%x): %+v, %d, not %+v, %d", b, got, gotE, want, e)
	}
	if back, backE := Batch(got); e == api.OK && (!bytes.Equal(back, b) || backE != api.OK) {
		t.Fatalf("GetBatch(%x): put: %x, %d", b, back, backE)
	}
	if !bytes.Equal(b, kept) {
		t.Fatalf("GetBatch(%x): changed to %x", kept, b)
	}
	return e
}

// named is a list of bytes, and the error that they are.
type named struct {
	what string
	b    string
	want api.Errno
}

// holdParts holds GetPart's errors against those named.
func holdParts(t *testing.T, list []named) {
	t.Helper()
	for _, x := range list {
		if got, e := GetPart([]byte(x.b)); e != x.want || e != api.OK && !part.Same(got, api.Part{}) {
			t.Errorf("%s: %+v, %d, not %d", x.what, got, e, x.want)
		}
		gotPart(t, []byte(x.b))
	}
}

// holdBatches holds GetBatch's errors against those named.
func holdBatches(t *testing.T, list []named) {
	t.Helper()
	for _, x := range list {
		if got, e := GetBatch([]byte(x.b)); e != x.want || e != api.OK && !sameBatch(got, api.Batch{}) {
			t.Errorf("%s: %+v, %d, not %d", x.what, got, e, x.want)
		}
		gotBatch(t, []byte(x.b))
	}
}

// P9.3

func TestGetPart(t *testing.T) {
	for _, x := range written() {
		if got, e := GetPart([]byte(x.want)); !part.Same(got, x.p) || e != api.OK {
			t.Errorf("%s: %+v, %d", x.what, got, e)
		}
		for cut := range len(x.want) {
			if got, e := GetPart([]byte(x.want[:cut])); !part.Same(got, api.Part{}) || e != api.ErrShort {
				t.Errorf("%s, cut behind %d: %+v, %d", x.what, cut, got, e)
			}
		}
		for more := range 256 {
			if got, e := GetPart(append([]byte(x.want), byte(more))); !part.Same(got, api.Part{}) || e != api.ErrBytes {
				t.Errorf("%s, and %d: %+v, %d", x.what, more, got, e)
			}
		}
	}
	if got, e := GetPart(nil); !part.Same(got, api.Part{}) || e != api.ErrShort {
		t.Errorf("of nothing: %+v, %d", got, e)
	}
}

func TestGetBatch(t *testing.T) {
	for _, x := range writtenBatches() {
		if got, e := GetBatch([]byte(x.want)); !sameBatch(got, x.b) || e != api.OK {
			t.Errorf("%s: %+v, %d", x.what, got, e)
		}
		for cut := range len(x.want) {
			if got, e := GetBatch([]byte(x.want[:cut])); !sameBatch(got, api.Batch{}) || e != api.ErrShort {
				t.Errorf("%s, cut behind %d: %+v, %d", x.what, cut, got, e)
			}
		}
		for more := range 256 {
			if got, e := GetBatch(append([]byte(x.want), byte(more))); !sameBatch(got, api.Batch{}) || e != api.ErrBytes {
				t.Errorf("%s, and %d: %+v, %d", x.what, more, got, e)
			}
		}
	}
	if got, e := GetBatch(nil); !sameBatch(got, api.Batch{}) || e != api.ErrShort {
		t.Errorf("of nothing: %+v, %d", got, e)
	}
}

func TestGetOfMoreThanMaxFile(t *testing.T) {
	for _, x := range []struct {
		what        string
		b           string
		part, batch api.Errno
	}{
		{"MaxFile bytes, all 0", zeros(api.MaxFile), api.ErrBytes, api.ErrBytes},
		{"one more, all 0", zeros(api.MaxFile + 1), api.ErrBig, api.ErrBig},
		{"many more, all 0", zeros(3 * api.MaxFile), api.ErrBig, api.ErrBig},
		{"MaxFile bytes, a first one that is wrong", "\x09" + zeros(api.MaxFile-1), api.ErrBytes, api.ErrBytes},
		{"one more, a first one that is wrong", "\x09" + zeros(api.MaxFile), api.ErrBig, api.ErrBig},
		{"MaxFile bytes, a count of as many", "\x03\x04\x00\x00" + xs(api.MaxFile-4), api.ErrShort, api.ErrShort},
		{"one more, a count of as many", "\x03\x04\x00\x00" + xs(api.MaxFile-3), api.ErrBig, api.ErrBig},
		{"MaxFile bytes, a Key of all but what it must have", laidText(xs(api.MaxFile-6)) + "\x00\x00", api.ErrArg, api.ErrBytes},
		{"one more, that may not be either", laidText(xs(api.MaxFile-5)) + "\x00\x00", api.ErrBig, api.ErrBig},
	} {
		if got, e := GetPart([]byte(x.b)); e != x.part || !part.Same(got, api.Part{}) {
			t.Errorf("%s: GetPart: %d, not %d", x.what, e, x.part)
		}
		if got, e := GetBatch([]byte(x.b)); e != x.batch || !sameBatch(got, api.Batch{}) {
			t.Errorf("%s: GetBatch: %d, not %d", x.what, e, x.batch)
		}
	}
}

// ahead is what stands ahead of each number and count of a partition, and behind them when they are 0.
func ahead() []struct {
	what          string
	count         bool
	front, behind string
} {
	const row = "\x00\x00\x01\x01" // ahead of the only row
	const col = row + "\x00\x00\x00\x00\x01\x01"
	return []struct {
		what          string
		count         bool
		front, behind string
	}{
		{"how many bytes Key has", true, "", "\x00\x00"},
		{"Gone", false, "\x00", "\x00"},
		{"how many rows", true, "\x00\x00", ""},
		{"how many bytes a row's Key has", true, row, "\x00\x00\x00\x00"},
		{"Live's At", false, row + "\x00", "\x00\x00\x00"},
		{"how many bytes Live's Val has", true, row + "\x00" + "\x01\x05\x00", "\x00\x00\x00\x00"},
		{"Live's End", false, row + "\x00" + "\x01\x05\x00\x00", "\x00\x00\x00"},
		{"a row's Gone", false, row + "\x00\x00", "\x00\x00"},
		{"Shade", false, row + "\x00\x00\x00", "\x00"},
		{"how many Cols", true, row + "\x00\x00\x00\x00", ""},
		{"how many bytes a name has", true, col, "\x00"},
		{"a cell's At", false, col + "\x01\x01n", ""},
		{"how many bytes a Val has", true, col + "\x01\x01n" + "\x01\x05\x00", "\x00"},
		{"a cell's End", false, col + "\x01\x01n" + "\x01\x05\x00\x00", ""},
	}
}

// wrongNumbers are bytes that are no number, or none that may be one, with what their error is, whatever stands behind.
func wrongNumbers() []named {
	return []named{
		{"a wrong first byte", "\x09", api.ErrBytes},
		{"a wrong first byte, the bytes of it", "\x09\x01\x02\x03\x04\x05\x06\x07\x08\x09", api.ErrBytes},
		{"the last first byte", "\xff", api.ErrBytes},
		{"longer than it need be", "\x01\x00", api.ErrBytes},
		{"of two bytes, longer than it need be", "\x02\x00\x05", api.ErrBytes},
		{"of eight bytes, longer than it need be", "\x08\x00\x01\x01\x01\x01\x01\x01\x01", api.ErrBytes},
	}
}

func TestGetPartOfNumbers(t *testing.T) {
	var list []named
	for _, x := range ahead() {
		for _, n := range wrongNumbers() {
			for _, behind := range []string{"", x.behind, x.behind + "\x00", xs(200)} {
				list = append(list, named{x.what + ": " + n.what, x.front + n.b + behind, n.want})
			}
		}
		list = append(list, named{x.what + ": cut", x.front + "\x02\x01", api.ErrShort})
		list = append(list, named{x.what + ": not there", x.front, api.ErrShort})
		for _, v := range []string{"\x06\x01\x00\x00\x00\x00\x01", "\x06\xff\xff\xff\xff\xff\xff", "\x07\x01\x00\x00\x00\x00\x00\x00", "\x08\x80\x00\x00\x00\x00\x00\x00\x00", "\x08\xff\xff\xff\xff\xff\xff\xff\xff"} {
			want := api.ErrBytes
			if x.count { // more than there can be bytes left
				want = api.ErrShort
			}
			for _, behind := range []string{"", x.behind, x.behind + "\x00", "\x09"} {
				list = append(list, named{x.what + ": above MaxStamp", x.front + v + behind, want})
			}
		}
	}
	holdParts(t, list)
}

func TestGetPartOfTheLastStamp(t *testing.T) {
	const last = "\x06\x01\x00\x00\x00\x00\x00"
	for _, x := range ahead() {
		want := api.OK
		if x.count {
			want = api.ErrShort
		}
		b := x.front + last + x.behind
		if strings.HasSuffix(x.what, "At") {
			b = x.front + last + "\x00\x00\x00" + x.behind
		}
		if _, e := GetPart([]byte(b)); e != want {
			t.Errorf("%s: %d, not %d", x.what, e, want)
		}
		gotPart(t, []byte(b))
	}
}

func TestGetPartOfCounts(t *testing.T) {
	for _, x := range ahead() {
		if !x.count {
			continue
		}
		for _, left := range []int{0, 1, 2, 5, 100, 254, 255, 256, 300} {
			for _, n := range []int{left + 1, left + 2, 2*left + 1, 1 << 16, 1 << 40} {
				// no number begins with 9: the count is told ahead of what is wrong in what it counts
				for _, fill := range []string{"\x09", "\x00", "a"} {
					b := x.front + laidNum(n) + strings.Repeat(fill, left)
					if got, e := GetPart([]byte(b)); e != api.ErrShort || !part.Same(got, api.Part{}) {
						t.Errorf("%s: %d, where %d are left: %d", x.what, n, left, e)
					}
					gotPart(t, []byte(b))
				}
			}
		}
	}
	holdParts(t, []named{
		{"as many rows as bytes are left, of which none is a number's", "\x00\x00\x01\x04" + "\x09\x09\x09\x09", api.ErrBytes},
		{"one row more", "\x00\x00\x01\x05" + "\x09\x09\x09\x09", api.ErrShort},
		{"as many rows as bytes are left", "\x00\x00\x01\x05" + "\x00\x00\x00\x00\x00", api.ErrShort},
		{"as many columns as bytes are left, of which none is a number's", "\x00\x00\x01\x01\x00\x00\x00\x00" + "\x01\x02" + "\x09\x09", api.ErrBytes},
		{"one column more", "\x00\x00\x01\x01\x00\x00\x00\x00" + "\x01\x03" + "\x09\x09", api.ErrShort},
		{"a Key of all that is left", "\x01\x04abcd", api.ErrShort},
		{"a Key of one more", "\x01\x05abcd", api.ErrShort},
		{"a Key of all but two", "\x01\x04ab\x01\x00\x00\x00", api.OK},
	})
}

func TestGetPartOfDead(t *testing.T) {
	const live = "\x00\x00\x01\x01\x00" + "\x01\x05"
	const cell = "\x00\x00\x01\x01\x00\x00\x00\x00\x01\x01" + "\x01\x01n" + "\x01\x05"
	var list []named
	for n := 2; n < 256; n++ {
		list = append(list,
			named{"Live: " + strconv.Itoa(n), live + string([]byte{byte(n)}) + "\x00\x00\x00\x00\x00", api.ErrBytes},
			named{"Live, at the end: " + strconv.Itoa(n), live + string([]byte{byte(n)}), api.ErrBytes},
			named{"a cell: " + strconv.Itoa(n), cell + string([]byte{byte(n)}) + "\x00\x00", api.ErrBytes},
			named{"a cell, at the end: " + strconv.Itoa(n), cell + string([]byte{byte(n)}), api.ErrBytes},
		)
	}
	holdParts(t, append(list,
		named{"a cell that is alive", cell + "\x00\x00\x00", api.OK},
		named{"a cell that is dead", cell + "\x01", api.OK},
		named{"a cell that is dead, with Val and End", cell + "\x01\x00\x00", api.ErrBytes},
		named{"a cell that is alive, without them", cell + "\x00", api.ErrShort},
		named{"neither", cell, api.ErrShort},
		named{"Live that is alive", live + "\x00\x00\x00" + "\x00\x00\x00", api.OK},
		named{"Live that is dead", live + "\x01" + "\x00\x00\x00", api.ErrArg},
	))
}

func TestGetPartThatMayNotBe(t *testing.T) {
	for what, p := range refused() {
		switch what {
		case "Gone below 0", "the least Gone", "a row's Gone below 0", "Shade below 0", "a stamp below 0", "an End below 0":
			continue // no bytes stand for what is below 0
		case "Live of At 0 with an End", "a value without a stamp", "dead without a stamp", "dead with a value", "dead with an End":
			continue // or for what a cell has beside these
		}
		want := api.ErrArg
		if strings.HasSuffix(what, "above MaxStamp") || what == "the greatest Gone" {
			want = api.ErrBytes
		}
		b := []byte(laidPart(p))
		if got, e := GetPart(b); e != want || !part.Same(got, api.Part{}) {
			t.Errorf("%s: %d, not %d", what, e, want)
		}
		gotPart(t, b)
		// what is wrong with the bytes is told first
		if _, e := GetPart(append(slices.Clone(b), 0)); e != api.ErrBytes {
			t.Errorf("%s, and a byte more: %d", what, e)
		}
		if _, e := GetPart(b[:len(b)-1]); want == api.ErrArg && e != api.ErrShort {
			t.Errorf("%s, cut: %d", what, e)
		}
	}
}

func TestGetPartOfTwoThings(t *testing.T) {
	const above = "\x06\x01\x00\x00\x00\x00\x01"
	holdParts(t, []named{
		{"above MaxStamp, then cut", "\x00" + above, api.ErrBytes},
		{"above MaxStamp, then a count of too many", "\x00" + above + "\x01\x05", api.ErrBytes},
		{"a count of too many, then above MaxStamp", "\x01\x09" + above, api.ErrShort},
		{"a count of too many, then a wrong first byte", "\x00\x00\x01\x02\x09", api.ErrShort},
		{"a count that is above MaxStamp and of too many", "\x08\x01\x00\x00\x00\x00\x00\x00\x00" + "\x00\x00", api.ErrShort},
		{"a number that is above MaxStamp, and cut", "\x00\x08\xff\xff\xff\xff\xff\xff\xff", api.ErrShort},
		{"a wrong first byte, then cut", "\x00\x09", api.ErrBytes},
		{"a wrong first byte, and cut itself", "\xff\x01", api.ErrBytes},
		{"longer than it need be, and cut", "\x00\x05\x00", api.ErrBytes},
		{"neither dead nor alive, then cut", "\x00\x00\x01\x01\x00\x01\x05\x02", api.ErrBytes},
		{"neither dead nor alive, then a count of too many", "\x00\x00\x01\x01\x00\x01\x05\x02" + "\x01\x09\x00\x00\x00", api.ErrBytes},
		{"a count of too many, then neither dead nor alive", "\x00\x00\x01\x09\x00\x01\x05\x02", api.ErrShort},
		{"a Key too great, then cut", laidText(xs(101)) + "\x00", api.ErrShort},
		{"a Key too great, then above MaxStamp", laidText(xs(101)) + above + "\x00", api.ErrBytes},
		{"a Key too great, then more", laidText(xs(101)) + "\x00\x00\x00", api.ErrBytes},
		{"rows that fall, then a wrong first byte", "\x00\x00\x01\x03" + "\x01\x01b\x00\x00\x00\x00" + "\x01\x01a\x00\x00\x00\x00" + "\x09", api.ErrBytes},
		{"a row more than may be, then cut", "\x00\x00" + laidNum(101) + zeros(101*5-1), api.ErrShort},
		{"a row more than may be", "\x00\x00" + laidNum(101) + zeros(101*5), api.ErrArg},
		{"a column's cell that is none, then cut", "\x00\x00\x01\x01\x00\x00\x00\x00\x01\x02" + "\x01\x01a\x00", api.ErrShort},
		{"a column's cell that is none, then neither dead nor alive", "\x00\x00\x01\x01\x00\x00\x00\x00\x01\x02" + "\x01\x01a\x00" + "\x01\x01b\x01\x01\x02", api.ErrBytes},
	})
}

// batched is the bytes of a batch of one Mut of the table t, with such bytes as its partition's, that names such a length.
func batched(n int, p string) string {
	return "\x01\x01" + "\x01\x01t" + laidNum(n) + p + "\x00\x00"
}

func TestGetBatchOfItsPartitions(t *testing.T) {
	for _, x := range written() {
		n := len(x.want)
		list := []named{
			{"whole", batched(n, x.want), api.OK},
			{"one byte too many", batched(n+1, x.want+"\x00"), api.ErrBytes},
			{"many too many", batched(n+9, x.want+xs(9)), api.ErrBytes},
			{"a length that takes a byte of what is behind", batched(n+1, x.want), api.ErrBytes},
			{"a length that takes all that is behind", batched(n+2, x.want), api.ErrBytes},
			{"a length of one more than is left", batched(n+3, x.want), api.ErrShort},
			{"a length of many more", batched(1<<40, x.want), api.ErrShort},
		}
		for cut := range n {
			list = append(list,
				named{"cut behind " + strconv.Itoa(cut), batched(cut, x.want[:cut]), api.ErrShort},
				named{"a length that leaves out what is behind " + strconv.Itoa(cut), batched(cut, x.want), api.ErrShort},
			)
		}
		for i := range list {
			list[i].what = x.what + ": " + list[i].what
		}
		holdBatches(t, list)
	}
	for what, p := range refused() {
		b := laidPart(p)
		_, e := GetPart([]byte(b))
		holdBatches(t, []named{{what, batched(len(b), b), e}})
	}
}

func TestGetBatchOfNumbers(t *testing.T) {
	var list []named
	for _, x := range []struct {
		what          string
		count         bool
		front, behind string
	}{
		{"how many Muts", true, "", "\x00\x00"},
		{"how many bytes Table has", true, "\x01\x01", "\x00\x00\x00"},
		{"how many bytes a partition has", true, "\x01\x01" + "\x01\x01t", "\x00\x00"},
		{"how many Add", true, "\x00", "\x00"},
		{"an ID", false, "\x00\x01\x01", "\x00\x00"},
		{"how many bytes a Body has", true, "\x00\x01\x01" + "\x01\x07", "\x00"},
		{"how many Drop", true, "\x00\x00", ""},
		{"a Drop", false, "\x00\x00\x01\x01", ""},
		{"the second Drop", false, "\x00\x00\x01\x02" + "\x01\x07", ""},
	} {
		for _, n := range wrongNumbers() {
			for _, behind := range []string{"", x.behind, xs(200)} {
				list = append(list, named{x.what + ": " + n.what, x.front + n.b + behind, n.want})
			}
		}
		list = append(list, named{x.what + ": cut", x.front + "\x02\x01", api.ErrShort})
		list = append(list, named{x.what + ": not there", x.front, api.ErrShort})
		want := api.ErrBytes
		if x.count {
			want = api.ErrShort
			for _, left := range []int{0, 1, 2, 9, 255, 300} {
				for _, n := range []int{left + 1, left + 2, 1 << 40} {
					list = append(list, named{x.what + ": more than is left", x.front + laidNum(n) + strings.Repeat("\x09", left), api.ErrShort})
				}
			}
		}
		for _, v := range []string{"\x06\x01\x00\x00\x00\x00\x01", "\x08\xff\xff\xff\xff\xff\xff\xff\xff"} {
			list = append(list, named{x.what + ": above MaxStamp", x.front + v + x.behind, want})
		}
	}
	holdBatches(t, list)
}

func TestGetBatchThatMayNotBe(t *testing.T) {
	mut := "\x01\x01t" + "\x01\x03\x00\x00\x00"
	holdBatches(t, []named{
		{"64 Muts", "\x01\x40" + strings.Repeat(mut, 64) + "\x00\x00", api.OK},
		{"65 Muts", "\x01\x41" + strings.Repeat(mut, 65) + "\x00\x00", api.ErrArg},
		{"a Table that is empty", "\x01\x01" + "\x00" + "\x01\x03\x00\x00\x00" + "\x00\x00", api.ErrArg},
		{"a Table that is no name", "\x01\x01" + "\x01\x01T" + "\x01\x03\x00\x00\x00" + "\x00\x00", api.ErrArg},
		{"a Table that is too long", "\x01\x01" + laidText(xs(101)) + "\x01\x03\x00\x00\x00" + "\x00\x00", api.ErrArg},
		{"MaxNotes to Add", "\x00" + laidNum(300) + strings.Repeat("\x01\x01\x00", 300) + "\x00", api.OK},
		{"one more", "\x00" + laidNum(301) + strings.Repeat("\x01\x01\x00", 301) + "\x00", api.ErrArg},
		{"an ID of 0", "\x00" + "\x01\x01" + "\x00\x00" + "\x00", api.ErrArg},
		{"an ID of 1", "\x00" + "\x01\x01" + "\x01\x01\x00" + "\x00", api.OK},
		{"an ID of MaxStamp", "\x00" + "\x01\x01" + "\x06\x01\x00\x00\x00\x00\x00\x00" + "\x00", api.OK},
		{"an ID above it", "\x00" + "\x01\x01" + "\x06\x01\x00\x00\x00\x00\x01\x00" + "\x00", api.ErrBytes},
		{"a Body of MaxBody bytes", "\x00" + "\x01\x01" + "\x01\x01" + laidText(xs(4096)) + "\x00", api.OK},
		{"a Body of one more", "\x00" + "\x01\x01" + "\x01\x01" + laidText(xs(4097)) + "\x00", api.ErrArg},
		{"MaxNotes to Drop", "\x00\x00" + laidNum(300) + strings.Repeat("\x01\x01", 300), api.OK},
		{"one more", "\x00\x00" + laidNum(301) + strings.Repeat("\x01\x01", 301), api.ErrArg},
		{"a Drop of 0", "\x00\x00" + "\x01\x01" + "\x00", api.ErrArg},
		{"a Drop of MaxStamp", "\x00\x00" + "\x01\x01" + "\x06\x01\x00\x00\x00\x00\x00", api.OK},
		{"a Drop above it", "\x00\x00" + "\x01\x01" + "\x06\x01\x00\x00\x00\x00\x01", api.ErrBytes},
	})
}

func TestGetBatchOfTwoThings(t *testing.T) {
	const above = "\x06\x01\x00\x00\x00\x00\x01"
	const falling = "\x00\x00\x01\x02" + "\x01\x01b\x00\x00\x00\x00" + "\x01\x01a\x00\x00\x00\x00"
	bad := "\x01\x01" + "\x01\x01t" + laidText(falling) // it reads well
	holdBatches(t, []named{
		{"a partition cut, then above MaxStamp", "\x01\x01" + "\x01\x01t" + "\x01\x02\x00\x00" + "\x01\x01" + above + "\x00\x00", api.ErrShort},
		{"a partition above MaxStamp, then cut", "\x01\x01" + "\x01\x01t" + "\x01\x09" + "\x00" + above + "\x00", api.ErrBytes},
		{"a partition with a byte too many, then cut", "\x01\x01" + "\x01\x01t" + "\x01\x04\x00\x00\x00\x00", api.ErrBytes},
		{"a partition with a byte too many, then a count of too many", "\x01\x01" + "\x01\x01t" + "\x01\x04\x00\x00\x00\x00" + "\x01\x09", api.ErrBytes},
		{"a partition cut, then another one with a byte too many", "\x01\x02" + "\x01\x01t" + "\x01\x02\x00\x00" + "\x01\x01t" + "\x01\x04\x00\x00\x00\x00" + "\x00\x00", api.ErrShort},
		{"a partition with a byte too many, then another one cut", "\x01\x02" + "\x01\x01t" + "\x01\x04\x00\x00\x00\x00" + "\x01\x01t" + "\x01\x02\x00\x00" + "\x00\x00", api.ErrBytes},
		{"a length of too many, of a partition that is wrong", "\x01\x01" + "\x01\x01t" + "\x01\x09" + "\x09\x09\x09", api.ErrShort},
		{"a partition's count of more than its bytes left, of fewer than the batch's", "\x01\x01" + "\x01\x01t" + "\x01\x05\x00\x00\x01\x02\x09" + "\x00\x00", api.ErrShort},
		{"a Table that is none, then a partition cut", "\x01\x01" + "\x01\x01T" + "\x01\x02\x00\x00" + "\x00\x00", api.ErrShort},
		{"a Table that is none, then above MaxStamp", "\x01\x01" + "\x01\x01T" + "\x01\x03\x00\x00\x00" + "\x00" + "\x01\x01" + above, api.ErrBytes},
		{"an ID of 0, then cut", "\x00\x01\x01\x00\x00", api.ErrShort},
		{"an ID of 0, then a wrong first byte", "\x00\x01\x01\x00\x00\x09", api.ErrBytes},
		{"an ID of 0, then more", "\x00\x01\x01\x00\x00\x00\x00", api.ErrBytes},
		{"an ID above MaxStamp, then cut", "\x00\x01\x01" + above, api.ErrBytes},
		{"a partition that may not be", bad + "\x00\x00", api.ErrArg},
		{"a partition that may not be, then cut", bad + "\x00", api.ErrShort},
		{"a partition that may not be, then a count of too many", bad + "\x01\x09\x00", api.ErrShort},
		{"a partition that may not be, then above MaxStamp", bad + "\x00" + "\x01\x01" + above, api.ErrBytes},
		{"a partition that may not be, then more", bad + "\x00\x00\x00", api.ErrBytes},
		{"a Drop too many, then more", "\x00\x00" + laidNum(301) + strings.Repeat("\x01\x01", 301) + "\x00", api.ErrBytes},
		{"a Drop too many, and cut", "\x00\x00" + laidNum(301) + strings.Repeat("\x01\x01", 300) + "\x01", api.ErrShort},
	})
}

func TestReaderWithAnError(t *testing.T) {
	for what, ask := range map[string]func(r *reader) bool{
		"num":   func(r *reader) bool { return r.num() == 0 },
		"stamp": func(r *reader) bool { return r.stamp() == 0 },
		"count": func(r *reader) bool { return r.count() == 0 },
		"text":  func(r *reader) bool { return r.text() == "" },
		"dead":  func(r *reader) bool { return !r.dead() },
		"cell":  func(r *reader) bool { return r.cell() == api.Cell{} },
		"col":   func(r *reader) bool { return r.col() == api.Col{} },
		"part":  func(r *reader) bool { return part.Same(r.part(), api.Part{}) },
		"inner": func(r *reader) bool { return part.Same(r.inner(), api.Part{}) },
		"batch": func(r *reader) bool { return sameBatch(r.batch(), api.Batch{}) },
		"end":   func(r *reader) bool { r.end(); return true },
	} {
		for _, b := range []string{"", "\x01\x01\x01", "\x09", "\x02"} {
			// an error that no reader finds
			if r := (reader{b: []byte(b), e: api.ErrSum}); !ask(&r) || r.e != api.ErrSum {
				t.Errorf("%s of %x: not nought, or the error is %d", what, b, r.e)
			}
		}
	}
}

// spoiled writes over all lists of a partition, spare room too.
func spoiled(p api.Part) {
	rows := p.Rows[:cap(p.Rows)]
	for i := range rows {
		cols := rows[i].Cols[:cap(rows[i].Cols)]
		for k := range cols {
			cols[k] = api.Col{Name: "other", Cell: api.Cell{At: 99}}
		}
		rows[i] = api.Row{Key: "other", Gone: 99}
	}
}

func TestGetSharesNothing(t *testing.T) {
	r := rand.New(rand.NewSource(94))
	for range 500 {
		p, batch := somePart(r, 8), someBatch(r)
		b := []byte(laidPart(p))
		first, _ := GetPart(b)
		second, _ := GetPart(b)
		s := []byte(laidBatch(batch))
		firstBatch, _ := GetBatch(s)
		secondBatch, _ := GetBatch(s)
		for _, list := range [][]byte{b, s} {
			for i := range list {
				list[i] = 77
			}
		}
		spoiled(first)
		for _, m := range firstBatch.Muts[:cap(firstBatch.Muts)] {
			spoiled(m.Part)
		}
		clear(firstBatch.Muts[:cap(firstBatch.Muts)])
		clear(firstBatch.Add[:cap(firstBatch.Add)])
		clear(firstBatch.Drop[:cap(firstBatch.Drop)])
		if !part.Same(second, p) || !sameBatch(secondBatch, batch) {
			t.Fatalf("written over, another answer is %+v, %+v, not %+v, %+v", second, secondBatch, p, batch)
		}
	}
}

func TestGetListsShareNothing(t *testing.T) {
	r := rand.New(rand.NewSource(95))
	for range 500 {
		p := somePart(r, 8)
		got, _ := GetPart([]byte(laidPart(p)))
		for i := range got.Rows {
			// one row's columns written over, with their spare room: the others stay
			other, _ := GetPart([]byte(laidPart(p)))
			cols := other.Rows[i].Cols[:cap(other.Rows[i].Cols)]
			clear(cols)
			other.Rows[i].Cols = got.Rows[i].Cols
			if !part.Same(other, p) {
				t.Fatalf("the columns of row %d written over: %+v, not %+v", i, other, p)
			}
		}
		batch := api.Batch{Muts: repeat(api.Mut{Table: "t", Part: p}, 3)}
		b, _ := GetBatch([]byte(laidBatch(batch)))
		if len(b.Muts) != 3 {
			t.Fatalf("%d Muts", len(b.Muts))
		}
		spoiled(b.Muts[1].Part)
		if !part.Same(b.Muts[0].Part, p) || !part.Same(b.Muts[2].Part, p) {
			t.Fatalf("one partition written over: %+v", b)
		}
	}
}

// P9.4

func TestPutIsGot(t *testing.T) {
	r := rand.New(rand.NewSource(96))
	for range 3000 {
		p := somePart(r, 6)
		b, e := Part(p)
		if e != api.OK {
			t.Fatalf("%+v: put: %d", p, e)
		}
		if got, e := GetPart(b); !part.Same(got, p) || e != api.OK {
			t.Fatalf("%+v: got %+v, %d", p, got, e)
		}
		batch := someBatch(r)
		b, e = Batch(batch)
		if e != api.OK {
			t.Fatalf("%+v: put: %d", batch, e)
		}
		if got, e := GetBatch(b); !sameBatch(got, batch) || e != api.OK {
			t.Fatalf("%+v: got %+v, %d", batch, got, e)
		}
	}
}

// turned is bytes with something turned in them.
func turned(r *rand.Rand, b string) string {
	if b == "" {
		return "\x00"
	}
	few := string([]byte{"\x00\x01\x02\x03\x05\x06\x08\x09a\xff"[r.Intn(10)]})
	i := r.Intn(len(b))
	to := i + r.Intn(min(12, len(b)-i)) + 1
	switch r.Intn(8) {
	case 0:
		return b[:i] + few + b[i+1:]
	case 1:
		return b[:i] + string([]byte{b[i] + 1}) + b[i+1:]
	case 2:
		return b[:i] + string([]byte{b[i] - 1}) + b[i+1:]
	case 3:
		return b[:i] + few + b[i:]
	case 4:
		return b[:i] + b[to:]
	case 5:
		return b[:to] + b[i:]
	case 6:
		return b[:i]
	}
	return b[:i] + string([]byte{b[i] ^ 1<<r.Intn(8)}) + b[i+1:]
}

// eachError tells of an error of those that bytes may have that came seldom.
func eachError(t *testing.T, what string, found map[api.Errno]int) {
	t.Helper()
	for _, e := range []api.Errno{api.OK, api.ErrShort, api.ErrBytes, api.ErrArg} {
		if found[e] < 50 {
			t.Errorf("%s: the error %d came %d times", what, e, found[e])
		}
	}
}

func TestGetOfManyTurned(t *testing.T) {
	r := rand.New(rand.NewSource(97))
	parts, batches := make(map[api.Errno]int), make(map[api.Errno]int)
	for range 40000 {
		p, b := laidPart(somePart(r, 3)), laidBatch(someBatch(r))
		for range r.Intn(3) {
			p, b = turned(r, p), turned(r, b)
		}
		parts[gotPart(t, []byte(p))]++
		batches[gotBatch(t, []byte(b))]++
	}
	eachError(t, "partitions", parts)
	eachError(t, "batches", batches)
}

func TestGetOfEachByteTurned(t *testing.T) {
	parts, batches := written(), writtenBatches()
	p, b := []byte(parts[len(parts)-1].want), []byte(batches[len(batches)-1].want)
	for v := range 256 {
		for i := range p {
			x := slices.Clone(p)
			x[i] = byte(v)
			gotPart(t, x)
			gotBatch(t, []byte(batched(len(x), string(x))))
		}
		for i := range b {
			x := slices.Clone(b)
			x[i] = byte(v)
			gotBatch(t, x)
		}
	}
}

// eachShort calls f with every list of up to most of the bytes of some.
func eachShort(some string, most int, f func(b []byte)) {
	var grow func(b []byte)
	grow = func(b []byte) {
		f(b)
		for i := 0; i < len(some) && len(b) < most; i++ {
			grow(append(slices.Clone(b), some[i]))
		}
	}
	grow(nil)
}

func TestGetOfAllShort(t *testing.T) {
	eachShort("\x00\x01\x02a", 8, func(b []byte) { gotPart(t, b) })
	eachShort("\x00\x01\x02\x03a", 7, func(b []byte) { gotBatch(t, b) })
	eachShort("\x00\x01\x06\x08\x09\xff", 5, func(b []byte) {
		gotPart(t, append([]byte("\x00\x00\x01\x01"), b...))
		gotBatch(t, append([]byte("\x01\x01\x01\x01t"), b...))
	})
}

func TestGetOfAnyBytes(t *testing.T) {
	r := rand.New(rand.NewSource(98))
	for range 20000 {
		b := make([]byte, r.Intn(60))
		for i := range b {
			b[i] = byte(r.Intn(1 << r.Intn(9)))
		}
		gotPart(t, b)
		gotBatch(t, b)
	}
	for _, n := range []int{4097, api.MaxFile - 1, api.MaxFile} {
		for _, few := range []string{"\x00", "\x01", "\x01\x01", "\x02\x01", "\x03\x01", "\x03\x03\xff\xff", "\x08\x01", "\xff"} {
			b := []byte(strings.Repeat(few, n))[:n]
			gotPart(t, b)
			gotBatch(t, b)
		}
	}
}

func TestGetOfManyThings(t *testing.T) {
	// as many rows, columns, Muts, notes as MaxFile bytes have room for: they read well, and may not be
	const rows = (api.MaxFile - 6) / 5
	const cols = (api.MaxFile - 12) / 2
	const muts = (api.MaxFile - 6) / 8
	const notes = (api.MaxFile - 6) / 2
	for _, b := range []string{
		"\x00\x00" + laidNum(rows) + zeros(5*rows),
		"\x00\x00\x01\x01\x00\x00\x00\x00" + laidNum(cols) + zeros(2*cols),
	} {
		if _, e := GetPart([]byte(b)); e != api.ErrArg {
			t.Errorf("% x and so on: %d", b[:20], e)
		}
	}
	for _, b := range []string{
		laidNum(muts) + strings.Repeat("\x01\x01t"+"\x01\x03\x00\x00\x00", muts) + "\x00\x00",
		"\x00" + laidNum(notes) + zeros(2*notes) + "\x00",
		"\x00\x00" + laidNum(2*notes) + zeros(2*notes),
	} {
		if _, e := GetBatch([]byte(b)); e != api.ErrArg {
			t.Errorf("% x and so on: %d", b[:20], e)
		}
	}
}
