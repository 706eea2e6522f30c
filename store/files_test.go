package store

import (
	"slices"
	"strconv"
	"testing"

	"clerestory/api"
	"clerestory/part"
	"clerestory/shelf"
	"clerestory/sst"
)

// P12.2

// file asks whether a file has just these partitions of a table.
func file(t *testing.T, what string, d *shelf.Shelf, n int, table string, want ...api.Part) {
	t.Helper()
	body, e := d.Get(n)
	told(t, what+": Get", e, api.OK)
	name, e := sst.Table(body)
	told(t, what+": Table", e, api.OK)
	parts, _ := sst.All(body)
	if name != table || !slices.EqualFunc(parts, want, part.Same) {
		t.Fatalf("%s: file %d: %s %v, not %s %v", what, n, name, parts, table, want)
	}
}

// flushed asks whether the log is in files: how many there are.
func flushed(t *testing.T, what string, s *Store, d *shelf.Shelf, many int, want string) {
	t.Helper()
	if d.Log() != "" || d.Unsynced() != 0 || d.Man() == "" || len(d.Nums()) != many {
		t.Fatalf("%s: a log of %d bytes, files %d", what, len(d.Log()), d.Nums())
	}
	has(t, what, s, want)
	c := d.Copy()
	c.Crash(0)
	has(t, what+", opened", open(t, c), want)
	if c.Man() != d.Man() || !slices.Equal(c.Nums(), d.Nums()) {
		t.Fatalf("%s: Open turned the shelf", what)
	}
}

func TestFlush(t *testing.T) {
	s, d, want := with(t, muts(gone("u", "b", 2), rows("t", "z", 0, 2), rows("t", "a", 0, 1), gone("t", "z", 1)), adds(first(3, 3)...))
	told(t, "Flush", s.Flush(), api.OK)
	flushed(t, "two tables", s, d, 2, want)
	nums := d.Nums()
	z := api.Part{Key: "z", Gone: 1, Rows: rows("t", "z", 0, 2).Part.Rows}
	file(t, "t", d, nums[0], "t", rows("t", "a", 0, 1).Part, z)
	file(t, "u", d, nums[1], "u", api.Part{Key: "b", Gone: 2})

	// of what comes behind it the next file has that alone, not what was there
	more := muts(rows("t", "z", 7, 1), rows("t", "z", 5, 1))
	told(t, "Apply", s.Apply(more), api.OK)
	want = text(t, s)
	told(t, "Flush", s.Flush(), api.OK)
	flushed(t, "one table", s, d, 3, want)
	next := d.Nums()
	if !slices.Equal(next[:2], nums) {
		t.Fatalf("files %d, then %d", nums, next)
	}
	file(t, "what came since", d, next[2], "t", api.Part{Key: "z", Rows: append(rows("t", "z", 5, 1).Part.Rows, rows("t", "z", 7, 1).Part.Rows...)})

	// a store that is opened has what came since in its log
	told(t, "Apply", s.Apply(muts(gone("u", "c", 1))), api.OK)
	want = text(t, s)
	s = open(t, d)
	told(t, "Flush", s.Flush(), api.OK)
	flushed(t, "of a log that was there", s, d, 4, want)
	file(t, "of a log that was there", d, d.Nums()[3], "u", api.Part{Key: "c", Gone: 1})
}

func TestFlushOfNothing(t *testing.T) {
	s, d, _ := with(t)
	told(t, "Flush", s.Flush(), api.OK)
	flushed(t, "nothing", s, d, 0, "")
	told(t, "Apply", s.Apply(api.Batch{Muts: []api.Mut{gone("t", "k", 0)}, Add: first(2, 2)}), api.OK)
	told(t, "Flush", s.Flush(), api.OK)
	want := text(t, s)
	lay := disk(d)
	told(t, "Flush", s.Flush(), api.OK)
	flushed(t, "nothing since", s, d, 1, want)
	if disk(d) != lay {
		t.Error("nothing since: the shelf is another")
	}
	told(t, "Apply", s.Apply(api.Batch{Add: []api.Note{{ID: 9, Body: "nine"}}, Drop: []int{1}}), api.OK)
	want = text(t, s)
	told(t, "Flush", s.Flush(), api.OK)
	flushed(t, "notes alone", s, d, 1, want)
	told(t, "Apply", s.Apply(api.Batch{Drop: []int{2, 9}}), api.OK)
	told(t, "Flush", s.Flush(), api.OK)
	flushed(t, "no notes any more", s, d, 1, brief("t", api.Part{Key: "k"}))
}

func TestFlushLeavesTwentyFour(t *testing.T) {
	s, d, _ := with(t, muts(gone("other", "o", 1)))
	told(t, "Flush", s.Flush(), api.OK)
	for i := range 60 {
		told(t, "Apply", s.Apply(muts(rows("t", "k", i, 1), gone("t", three(i), i))), api.OK)
		want := text(t, s)
		told(t, "Flush", s.Flush(), api.OK)
		// 24 with those two tables: the next one makes it 25, and so two
		flushed(t, "flush "+strconv.Itoa(i), s, d, 2+i%23, want)
		if len(d.Nums()) == 2 {
			file(t, "the other table", d, d.Nums()[0], "other", api.Part{Key: "o", Gone: 1})
			file(t, "all of the table", d, d.Nums()[1], "t", s.Parts("t")...)
		}
	}
}

func TestFlushOfManyTables(t *testing.T) {
	s, d, _ := with(t)
	for i, many := range []int{8, 16, 24, 8, 16, 24, 8} {
		told(t, "Apply", s.Apply(muts(names("abcdefgh")...)), api.OK)
		told(t, "Flush", s.Flush(), api.OK)
		flushed(t, "flush "+strconv.Itoa(i), s, d, many, text(t, s))
	}
	for _, many := range []int{15, 22, 24, 24, 8} {
		list := names("abcdefgh")[:7]
		if many == 24 {
			list = list[:24-len(d.Nums())]
		}
		told(t, "Apply", s.Apply(muts(list...)), api.OK)
		told(t, "Flush", s.Flush(), api.OK)
		flushed(t, "some tables", s, d, many, text(t, s))
	}
}

func TestSquash(t *testing.T) {
	s, d, _ := with(t)
	told(t, "Squash", s.Squash(), api.OK)
	flushed(t, "nothing", s, d, 0, "")
	for i := range 5 {
		told(t, "Apply", s.Apply(api.Batch{Muts: []api.Mut{gone("t", three(5-i), i), rows("t", "k", i, 2), gone("u", "k", i)}, Add: first(i, i)}), api.OK)
		if i < 4 {
			told(t, "Flush", s.Flush(), api.OK)
		}
	}
	d.Put(api.MaxStamp, "another's")
	want, old := text(t, s), d.Nums()
	told(t, "Squash", s.Squash(), api.OK)
	nums := d.Nums()
	if len(nums) != 3 || nums[2] != api.MaxStamp || slices.Contains(old[:8], nums[0]) || slices.Contains(old[:8], nums[1]) {
		t.Fatalf("files %d, then %d", old, nums)
	}
	file(t, "t", d, nums[0], "t", s.Parts("t")...)
	file(t, "u", d, nums[1], "u", s.Parts("u")...)
	d.Drop(api.MaxStamp)
	flushed(t, "squashed", s, d, 2, want)
	told(t, "Squash", s.Squash(), api.OK)
	flushed(t, "squashed again", s, d, 2, want)
	told(t, "Apply", s.Apply(muts(gone("u", "l", 1))), api.OK)
	want = text(t, s)
	told(t, "Flush", s.Flush(), api.OK)
	flushed(t, "and on", s, d, 3, want)
	file(t, "and on", d, d.Nums()[2], "u", api.Part{Key: "l", Gone: 1})
}

func TestNumbersAreGivenOnce(t *testing.T) {
	s, d, _ := with(t)
	greatest := 0
	for i := range 40 {
		told(t, "Apply", s.Apply(muts(gone("t", three(i), i), gone("u", three(i), i))), api.OK)
		was := d.Nums()
		call := s.Flush
		if i%7 == 3 {
			call = s.Squash
		}
		told(t, "Flush or Squash", call(), api.OK)
		for _, n := range d.Nums() {
			if !slices.Contains(was, n) && n <= greatest {
				t.Fatalf("%d is given, behind %d", n, greatest)
			}
		}
		greatest = slices.Max(d.Nums())
		if i%5 == 4 {
			s = open(t, d)
		}
	}
}

func TestNumbersOfOthers(t *testing.T) {
	s, d, _ := with(t, muts(names("abc")...))
	told(t, "Flush", s.Flush(), api.OK)
	last := slices.Max(d.Nums())
	told(t, "Apply", s.Apply(muts(names("abc")...)), api.OK)
	for _, n := range []int{last + 1, last + 3, last + 4} {
		told(t, "Put", d.Put(n, "another's"), api.OK)
	}
	want := text(t, s)
	told(t, "Flush", s.Flush(), api.OK)
	for _, n := range []int{last + 1, last + 3, last + 4} {
		if body, e := d.Get(n); body != "another's" || e != api.OK {
			t.Fatalf("file %d: %q, %d", n, body, e)
		}
	}
	has(t, "flushed", s, want)
	has(t, "opened", open(t, d), want)
	if nums := d.Nums(); len(nums) != 6 || nums[3] != last+2 || nums[4] != last+5 || nums[5] != last+6 {
		t.Errorf("files %d, behind %d", nums, last)
	}
}

func TestNoNumberIsLeft(t *testing.T) {
	d := shelf.New()
	for last := api.MaxStamp - 1; last <= api.MaxStamp; last++ {
		man, err := putMan(man{last: last})
		if err != nil || d.Turn(man) != api.OK {
			t.Fatal("no man")
		}
		s := open(t, d)
		told(t, "Apply", s.Apply(muts(names("ab")...)), api.OK)
		stuck(t, "Flush", s, d, s.Flush)
		stuck(t, "Squash", s, d, s.Squash)
	}
}

func TestTooManyFiles(t *testing.T) {
	s, d, _ := with(t, muts(names("abc")...), adds(first(3, 3)...))
	for n := range api.MaxFiles - 2 {
		d.Put(api.MaxStamp-n, "another's")
	}
	want := text(t, s)
	stuck(t, "Flush", s, d, s.Flush)
	stuck(t, "Squash", s, d, s.Squash)
	d.Drop(api.MaxStamp)
	told(t, "Flush", s.Flush(), api.OK)
	has(t, "room for three", s, want)
	told(t, "Flush of nothing", s.Flush(), api.OK)
	told(t, "Apply", s.Apply(muts(names("a")...)), api.OK)
	stuck(t, "Flush", s, d, s.Flush)
	stuck(t, "Squash, though old ones would go", s, d, s.Squash)
	s.Sync()
	d.Crash(0)
	s = open(t, d)
	has(t, "opened", s, want)
	told(t, "Flush", s.Flush(), api.OK)
	flushed(t, "flushed", s, d, 4, want)
}

func TestTooGreatAFile(t *testing.T) {
	s, d, _ := with(t, muts(gone("a", "k", 1)))
	for i := range 7 {
		told(t, "Apply", s.Apply(muts(great("t", three(i)))), api.OK)
	}
	want := text(t, s)
	stuck(t, "Squash", s, d, s.Squash)
	told(t, "Flush", s.Flush(), api.OK)
	has(t, "what came since alone is not too great", open(t, d), want)
	stuck(t, "Squash", s, d, s.Squash)
	for i := range 30 {
		told(t, "Apply", s.Apply(muts(gone("a", "k", i))), api.OK)
		if len(d.Nums()) < 24 {
			told(t, "Flush", s.Flush(), api.OK)
			continue
		}
		stuck(t, "Flush to more than 24", s, d, s.Flush)
	}
	if len(d.Nums()) != 24 {
		t.Fatalf("files %d", d.Nums())
	}
	want = text(t, s)
	s.Sync()
	d.Crash(0)
	has(t, "opened", open(t, d), want)
}

func TestTooManyBytesOfNotes(t *testing.T) {
	for _, call := range []func(s *Store) api.Errno{(*Store).Flush, (*Store).Squash} {
		s, d, _ := with(t, adds(first(40, api.MaxBody)...), muts(gone("t", "k", 1)))
		told(t, "Flush", s.Flush(), api.OK)
		more := first(64, api.MaxBody)[40:]
		told(t, "Apply", s.Apply(adds(more...)), api.OK)
		stuck(t, "too many bytes", s, d, func() api.Errno { return call(s) })
		told(t, "Apply", s.Apply(muts(gone("u", "k", 2))), api.OK)
		stuck(t, "too many bytes, and a file", s, d, func() api.Errno { return call(s) })
		want := text(t, s)
		s.Sync()
		d.Crash(0)
		s = open(t, d)
		has(t, "opened", s, want)
		told(t, "Apply", s.Apply(api.Batch{Drop: []int{64}}), api.OK)
		want = text(t, s)
		told(t, "as many as there may be", call(s), api.OK)
		flushed(t, "as many as there may be", s, d, 2, want)
	}
}

func TestBytesOfAMan(t *testing.T) {
	// as long as the shelf lets it
	fitting := man{files: []int{3, 7}, last: 9, notes: first(64, api.MaxBody)}
	for {
		text, err := putMan(fitting)
		if err == nil && len(text) <= api.MaxFile {
			break
		}
		fitting.notes[63].Body = fitting.notes[63].Body[1:]
	}
	text, _ := putMan(fitting)
	if len(text) != api.MaxFile {
		t.Fatalf("%d bytes", len(text))
	}
	for _, more := range []int{0, 1, 4, 5} {
		s, d, _ := with(t)
		s.files, s.last = fitting.files, fitting.last
		for i, x := range fitting.notes {
			if i == 63 {
				x.Body += xs(more)
			}
			told(t, "Apply", s.Apply(adds(x)), api.OK)
			if i == 30 {
				told(t, "Flush", s.Flush(), api.OK)
			}
		}
		if more > 0 {
			stuck(t, "more bytes than a man may have", s, d, s.Flush)
			continue
		}
		told(t, "Flush", s.Flush(), api.OK)
		if len(d.Man()) != api.MaxFile {
			t.Errorf("a man of %d bytes", len(d.Man()))
		}
	}
}
