package store

import (
	"math"
	"slices"
	"strings"
	"testing"

	"clerestory/api"
	"clerestory/pack"
	"clerestory/part"
	"clerestory/segment"
	"clerestory/shelf"
)

// P12.1

func TestNothing(t *testing.T) {
	d := shelf.New()
	was := disk(d)
	s := open(t, d)
	has(t, "a new store", s, "")
	if len(s.Tables()) != 0 || len(s.Notes()) != 0 {
		t.Error("a new store has something")
	}
	for _, name := range []string{"", "t", "T", "\xff", xs(1000)} {
		if len(s.Parts(name)) != 0 {
			t.Errorf("Parts(%q)", name)
		}
		for _, key := range []string{"", "k", "\x00", "\xff", xs(1000)} {
			if p := s.Get(name, key); p.Key != key || p.Gone != 0 || len(p.Rows) != 0 {
				t.Errorf("Get(%q, %q): %v", name, key, p)
			}
		}
	}
	for _, id := range []int{math.MinInt, -1, 0, 1, api.MaxStamp, math.MaxInt} {
		if body, ok := s.Note(id); body != "" || ok {
			t.Errorf("Note(%d): %q, %v", id, body, ok)
		}
	}
	if disk(d) != was {
		t.Error("the shelf is another")
	}
}

func TestApply(t *testing.T) {
	some := rows("t", "a", 5, 3)
	for _, list := range [][]api.Batch{
		{{}},
		{muts(gone("t", "k", 0))},
		{muts(gone("t", "", 1))},
		{muts(gone("t", "a", 2), some)},
		{muts(some, gone("t", "a", 2), rows("t", "a", 4, 2), gone("t", "a", 1))},
		{muts(gone("b", "y", 1), gone("a", "z", 2), gone("b", "x", 3), gone("a", "y", 4))},
		{muts(some), muts(rows("t", "a", 0, 6)), muts(gone("t", "a", 9)), muts(gone("t", "a", 3))},
		{muts(gone("t", "same", 1), gone("u", "same", 2))},
		{muts(gone("\u00e9t\u00e9", "\xff\x00", 1), gone("_", xs(api.MaxText), api.MaxStamp))},
		{adds(first(3, 5)...)},
		{adds(api.Note{ID: 7, Body: "seven"}, api.Note{ID: api.MaxStamp}, api.Note{ID: 7, Body: "again"})},
		{adds(first(5, 1)...), {Drop: []int{2, 4, 4, 9}}},
		{adds(first(5, 1)...), {Add: []api.Note{{ID: 2, Body: "new"}}, Drop: []int{2, 3}}},
		{{Muts: []api.Mut{some}, Add: first(2, 9), Drop: []int{1}}, {Muts: []api.Mut{great("u", "g")}, Add: []api.Note{{ID: 1, Body: xs(api.MaxBody)}}}},
	} {
		_, d, _ := with(t, list...)
		if d.Log() != string(logged(list...)) || d.Unsynced() != len(d.Log()) || d.Man() != "" || len(d.Nums()) != 0 {
			t.Errorf("%d batches: the shelf has not just their log, not synced", len(list))
		}
	}
}

func TestKeysAreTheirOwn(t *testing.T) {
	s, _, _ := with(t, muts(gone("t", "b", 2), gone("t", "a", 1)), muts(rows("t", "b", 0, 1)))
	parts := s.Parts("t")
	if len(parts) != 2 || parts[0].Key != "a" || parts[0].Gone != 1 || len(parts[0].Rows) != 0 || parts[1].Key != "b" || parts[1].Gone != 2 || len(parts[1].Rows) != 1 {
		t.Errorf("Parts: %v", parts)
	}
	if names := s.Tables(); !slices.Equal(names, []string{"t"}) {
		t.Errorf("Tables: %q", names)
	}
	if p := s.Get("t", "c"); p.Key != "c" || p.Gone != 0 || len(p.Rows) != 0 {
		t.Errorf("Get of none: %v", p)
	}
	if p := s.Get("u", "a"); p.Key != "a" || p.Gone != 0 || len(p.Rows) != 0 {
		t.Errorf("Get of another table's: %v", p)
	}
}

func TestApplyRefusesWhatMayNotBe(t *testing.T) {
	late := rows("t", "k", 0, 2)
	slices.Reverse(late.Part.Rows)
	long := make([]int, api.MaxNotes+1)
	for i := range long {
		long[i] = i + 1
	}
	many := slices.Repeat([]api.Mut{gone("t", "a", 1)}, 65)
	s, d, _ := with(t, api.Batch{Muts: []api.Mut{rows("t", "a", 0, 3)}, Add: first(3, 3)})
	s.Sync()
	for _, x := range []struct {
		what string
		b    api.Batch
	}{
		{"no name", muts(gone("", "k", 1))},
		{"a great letter", muts(gone("T", "k", 1))},
		{"a digit first", muts(gone("1t", "k", 1))},
		{"a long name", muts(gone(xs(api.MaxText+1), "k", 1))},
		{"a long key", muts(gone("t", xs(api.MaxText+1), 1))},
		{"below 0", muts(gone("t", "k", -1))},
		{"above MaxStamp", muts(gone("t", "k", api.MaxStamp+1))},
		{"rows that fall", muts(late)},
		{"too many rows", muts(rows("t", "k", 0, api.MaxRows+1))},
		{"too many muts", api.Batch{Muts: many}},
		{"wrong behind right", muts(gone("t", "new", 1), gone("T", "k", 1))},
		{"no number of a note", api.Batch{Muts: []api.Mut{gone("t", "new", 1)}, Add: []api.Note{{ID: 0}}}},
		{"a number below 0", adds(api.Note{ID: -1})},
		{"a great number", adds(api.Note{ID: api.MaxStamp + 1})},
		{"a long body", adds(api.Note{ID: 1, Body: xs(api.MaxBody + 1)})},
		{"too many notes", adds(first(api.MaxNotes+1, 0)...)},
		{"Drop of 0", api.Batch{Add: first(1, 0), Drop: []int{1, 0}}},
		{"Drop of what is too great", api.Batch{Drop: []int{api.MaxStamp + 1}}},
		{"too much to drop", api.Batch{Drop: long}},
		{"more rows than there is room for, and no name", muts(rows("t", "a", 3, 98), gone("", "k", 1))},
		{"more bytes than there may be, and a long body", adds(append(first(70, api.MaxBody), api.Note{ID: 1, Body: xs(api.MaxBody + 1)})...)},
	} {
		refused(t, x.what, s, d, x.b, api.ErrArg)
		fits(t, x.what, s, x.b, false)
	}
	fits(t, "64 muts", s, api.Batch{Muts: many[:64]}, true)
	fits(t, "as much to drop as there may be", s, api.Batch{Drop: long[:api.MaxNotes]}, true)
}

func TestRoomForRows(t *testing.T) {
	for _, x := range []struct {
		what  string
		first api.Batch
		next  api.Batch
		want  bool
	}{
		{"all at once", api.Batch{}, muts(rows("t", "k", 0, 100)), true},
		{"in two batches", muts(rows("t", "k", 0, 60)), muts(rows("t", "k", 60, 40)), true},
		{"one too many in two batches", muts(rows("t", "k", 0, 60)), muts(rows("t", "k", 60, 41)), false},
		{"others of the same keys", muts(rows("t", "k", 0, 100)), muts(rows("t", "k", 0, 100)), true},
		{"one that is there", muts(rows("t", "k", 0, 100)), muts(rows("t", "k", 50, 1)), true},
		{"one that is not", muts(rows("t", "k", 0, 100)), muts(rows("t", "k", 100, 1)), false},
		{"in two muts", api.Batch{}, muts(rows("t", "k", 0, 50), rows("t", "k", 50, 50)), true},
		{"one too many in two muts", api.Batch{}, muts(rows("t", "k", 0, 50), rows("t", "k", 50, 51)), false},
		{"one too many in three muts, on what is there", muts(rows("t", "k", 0, 34)), muts(rows("t", "k", 34, 33), gone("u", "k", 1), rows("t", "k", 67, 34)), false},
		{"in two partitions", muts(rows("t", "k", 0, 100)), muts(rows("t", "l", 100, 1)), true},
		{"in two tables", muts(rows("t", "k", 0, 100)), muts(rows("u", "k", 100, 1)), true},
		{"of what is gone, too", muts(rows("t", "k", 0, 100), gone("t", "k", 9)), muts(rows("t", "k", 100, 1)), false},
		{"what has room, and what has none", muts(rows("t", "k", 0, 100)), muts(gone("a", "k", 1), rows("t", "k", 100, 1), gone("z", "k", 1)), false},
	} {
		s, d, _ := with(t, x.first)
		fits(t, x.what, s, x.next, x.want)
		if !x.want {
			refused(t, x.what, s, d, x.next, api.ErrBig)
			continue
		}
		told(t, x.what, s.Apply(x.next), api.OK)
		has(t, x.what, s, paper{[]api.Batch{x.first, x.next}}.text())
	}
}

// keyed are changes of so many partitions of a table, from a number on.
func keyed(table string, from, many int) []api.Mut {
	var list []api.Mut
	for i := range many {
		list = append(list, gone(table, three(from+i), 1))
	}
	return list
}

func TestRoomForPartitions(t *testing.T) {
	batches := []api.Batch{muts(keyed("t", 0, 60)...), muts(keyed("t", 60, 39)...)}
	s, d, _ := with(t, batches...)
	fits(t, "the last one", s, muts(keyed("t", 99, 1)...), true)
	fits(t, "the last one twice, and some that are there", s, muts(append(keyed("t", 50, 50), gone("t", "099", 5))...), true)
	refused(t, "one too many", s, d, muts(keyed("t", 99, 2)...), api.ErrBig)
	told(t, "the last one", s.Apply(muts(keyed("t", 99, 1)...)), api.OK)
	fits(t, "all that are there", s, muts(keyed("t", 36, 64)...), true)
	fits(t, "one more", s, muts(keyed("t", 100, 1)...), false)
	fits(t, "of another table", s, muts(keyed("u", 100, 1)...), true)
	refused(t, "one more", s, d, muts(keyed("t", 100, 1)...), api.ErrBig)
	refused(t, "one more behind others", s, d, muts(gone("a", "k", 1), gone("t", "050", 7), gone("t", "", 1), gone("z", "k", 1)), api.ErrBig)
	told(t, "of another table", s.Apply(muts(keyed("u", 100, 1)...)), api.OK)
}

// names are changes of so many tables.
func names(letters string) []api.Mut {
	var list []api.Mut
	for _, r := range letters {
		list = append(list, gone(string(r), "k", 1))
	}
	return list
}

func TestRoomForTables(t *testing.T) {
	s, d, _ := with(t, muts(names("hgfedcb")...))
	fits(t, "eight", s, muts(names("a")...), true)
	refused(t, "nine at once", s, d, muts(names("ai")...), api.ErrBig)
	told(t, "eight", s.Apply(muts(names("a")...)), api.OK)
	if got := s.Tables(); strings.Join(got, "") != "abcdefgh" {
		t.Errorf("Tables: %q", got)
	}
	fits(t, "those that are there", s, muts(names("hgfedcba")...), true)
	refused(t, "nine", s, d, muts(names("i")...), api.ErrBig)
	refused(t, "nine, with others", s, d, muts(names("abic")...), api.ErrBig)
	s, d, _ = with(t)
	fits(t, "eight of none", s, muts(names("abcdefgh")...), true)
	refused(t, "nine of none", s, d, muts(names("abcdefghi")...), api.ErrBig)
}

func TestRoomForNotes(t *testing.T) {
	s, d, _ := with(t, adds(first(api.MaxNotes-1, 0)...))
	one, two := api.Note{ID: 1000}, api.Note{ID: 1001}
	fits(t, "the last one", s, adds(one), true)
	refused(t, "two", s, d, api.Batch{Muts: []api.Mut{gone("t", "k", 1)}, Add: []api.Note{one, two}}, api.ErrBig)
	told(t, "two for one", s.Apply(api.Batch{Add: []api.Note{one, two}, Drop: []int{5}}), api.OK)
	if len(s.Notes()) != api.MaxNotes {
		t.Errorf("%d notes", len(s.Notes()))
	}
	fits(t, "in place", s, adds(one, two), true)
	refused(t, "one that is no more", s, d, adds(api.Note{ID: 5}), api.ErrBig)
	refused(t, "one for one that is not there", s, d, api.Batch{Add: []api.Note{{ID: 5}}, Drop: []int{5}}, api.ErrBig)
	fits(t, "one for another", s, api.Batch{Add: []api.Note{{ID: 5}}, Drop: []int{6}}, true)
}

func TestLists(t *testing.T) {
	b := api.Batch{Muts: []api.Mut{great("t", "a")}, Add: first(2, 4), Drop: []int{9}}
	kept := api.Batch{Muts: []api.Mut{great("t", "a")}, Add: first(2, 4), Drop: []int{9}}
	want := paper{[]api.Batch{kept}}.text()
	s, d, _ := with(t, b)
	if !part.Same(b.Muts[0].Part, kept.Muts[0].Part) || b.Muts[0].Table != "t" || !slices.Equal(b.Add, kept.Add) || !slices.Equal(b.Drop, kept.Drop) {
		t.Error("what was handed in is another")
	}
	spoil(b.Muts[0].Part)
	b.Muts[0].Table, b.Add[0].Body, b.Drop[0] = "z", "z", 1
	has(t, "what was handed in is turned", s, want)
	for range 2 {
		spoil(s.Get("t", "a"))
		parts := s.Parts("t")
		spoil(parts[0])
		clear(parts[:cap(parts)])
		list := s.Tables()
		list[0] = "z"
		notes := s.Notes()
		notes[0].Body = "z"
		has(t, "what was answered is turned", s, want)
		told(t, "Flush", s.Flush(), api.OK)
		s = open(t, d)
	}
}

// spoil writes over all that a partition has.
func spoil(p api.Part) {
	for i := range p.Rows[:cap(p.Rows)] {
		r := &p.Rows[:cap(p.Rows)][i]
		for k := range r.Cols[:cap(r.Cols)] {
			r.Cols[:cap(r.Cols)][k] = api.Col{Name: "spoilt"}
		}
		r.Key, r.Gone = "spoilt", 77
	}
}

func TestSync(t *testing.T) {
	s, d, want := with(t, muts(gone("t", "k", 1)))
	log := d.Log()
	s.Sync()
	if d.Unsynced() != 0 || d.Log() != log {
		t.Errorf("%d bytes not synced", d.Unsynced())
	}
	told(t, "Apply", s.Apply(muts(gone("t", "l", 1))), api.OK)
	if d.Unsynced() != len(d.Log())-len(log) {
		t.Errorf("%d bytes not synced", d.Unsynced())
	}
	d.Crash(0)
	has(t, "what was synced", open(t, d), want)
}

// filled is a log with a batch of notes behind it that makes it have just so many bytes, and that batch.
func filled(t *testing.T, log []byte, want int) ([]byte, api.Batch) {
	t.Helper()
	b := adds(first(63, api.MaxBody)...)
	for {
		whole := segment.Put(log, string(packed(b)))
		over := len(whole) - want
		switch {
		case over == 0:
			return whole, b
		case over < 0:
			t.Fatalf("no batch makes a log of %d bytes", want)
		case over > 2*api.MaxBody:
			b.Add = b.Add[1:]
			continue
		}
		longest := &b.Add[0].Body
		for i := range b.Add {
			if len(b.Add[i].Body) > len(*longest) {
				longest = &b.Add[i].Body
			}
		}
		// at the end byte by byte: with the last byte of a piece goes what stands ahead of it
		*longest = (*longest)[max(1, (over-20)/2):]
	}
}

func TestBytesOfABatch(t *testing.T) {
	log, fitting := filled(t, nil, api.MaxFile)
	_, longer := filled(t, nil, api.MaxFile+7)
	if _, e := pack.Batch(longer); e != api.OK {
		t.Fatal("too long for pack, too")
	}
	for _, ahead := range [][]api.Batch{nil, {muts(gone("t", "k", 1))}} {
		s, d, _ := with(t, ahead...)
		for _, b := range []api.Batch{longer, adds(first(70, api.MaxBody)...)} {
			fits(t, "too many bytes", s, b, true)
			refused(t, "too many bytes", s, d, b, api.ErrBig)
		}
		told(t, "as many bytes as there may be", s.Apply(fitting), api.OK)
		want := paper{append(ahead, fitting)}.text()
		has(t, "as many bytes as there may be", s, want)
		if d.Log() != string(log) || d.Unsynced() != len(log) || len(d.Nums()) != len(ahead) {
			t.Errorf("behind %d: the log has not just the last one, or there are not %d files", len(ahead), len(ahead))
		}
		has(t, "opened", open(t, d), want)
	}
}

func TestALogThatIsFull(t *testing.T) {
	ahead := muts(great("t", "k"), gone("u", "l", 5))
	for _, more := range []int{0, 7, 8, 2000} { // 7 is a byte too many, with what stands ahead of its piece
		s, d, was := with(t, ahead)
		log, next := filled(t, []byte(d.Log()), api.MaxFile+more)
		want := paper{[]api.Batch{ahead, next}}.text()
		told(t, "Apply", s.Apply(next), api.OK)
		has(t, "applied", s, want)
		if more == 0 {
			if d.Log() != string(log) || d.Man() != "" || len(d.Nums()) != 0 || d.Unsynced() != len(log) {
				t.Fatalf("a log of %d bytes, %d files", len(d.Log()), len(d.Nums()))
			}
			next, was = api.Batch{}, want
			told(t, "Apply", s.Apply(next), api.OK)
		}
		if d.Log() != string(logged(next)) || len(d.Nums()) != 2 || d.Unsynced() != len(d.Log()) {
			t.Fatalf("%d too many: a log of %d bytes, %d not synced, %d files", more, len(d.Log()), d.Unsynced(), len(d.Nums()))
		}
		has(t, "opened", open(t, d.Copy()), want)
		d.Crash(0)
		has(t, "behind a crash", open(t, d), was)
	}
}

// packed is a batch's bytes.
func packed(b api.Batch) []byte {
	body, _ := pack.Batch(b)
	return body
}

func TestALogThatStaysFull(t *testing.T) {
	s, d, _ := with(t)
	n := 0
	for e := api.OK; e == api.OK; {
		b := adds(api.Note{ID: n + 1, Body: xs(api.MaxBody)})
		if e = s.Apply(b); e == api.OK {
			n++
		}
	}
	// the man has room for 63 of them, and the log for some more
	if n < 63+50 || n > 63+63 {
		t.Fatalf("%d notes", n)
	}
	refused(t, "no room in the log, nor in the man", s, d, adds(api.Note{ID: 200, Body: xs(api.MaxBody)}), api.ErrBig)
	refused(t, "nor for one in place", s, d, adds(api.Note{ID: 1, Body: xs(api.MaxBody)}), api.ErrBig)
	stuck(t, "Flush", s, d, s.Flush)
	stuck(t, "Squash", s, d, s.Squash)
	var most []int
	for i := range n {
		most = append(most, i+1)
	}
	told(t, "a small one", s.Apply(api.Batch{Muts: []api.Mut{gone("t", "k", 1)}, Drop: most[2:]}), api.OK)
	want := text(t, s)
	told(t, "Flush", s.Flush(), api.OK)
	d.Crash(0)
	has(t, "flushed", open(t, d), want)
	if len(s.Notes()) != 2 || d.Log() != "" {
		t.Errorf("%d notes, a log of %d bytes", len(s.Notes()), len(d.Log()))
	}
}
