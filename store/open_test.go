package store

import (
	"math/rand"
	"slices"
	"strconv"
	"strings"
	"testing"

	"clerestory/api"
	"clerestory/pack"
	"clerestory/segment"
	"clerestory/shelf"
	"clerestory/sst"
)

// P12.3

// closed asks whether Open of a shelf tells an error, and turns nothing.
func closed(t *testing.T, what string, d *shelf.Shelf, want api.Errno) {
	t.Helper()
	lay := disk(d)
	s, e := Open(d)
	if s != nil || e != want {
		t.Fatalf("%s: Open: %v, %d, not %d", what, s != nil, e, want)
	}
	if disk(d) != lay {
		t.Fatalf("%s: the shelf is another", what)
	}
}

// full is a shelf with files, notes, a log that is not all synced and has a torn tail, and a file of another.
func full(t *testing.T) *shelf.Shelf {
	t.Helper()
	s, d, _ := with(t, api.Batch{Muts: []api.Mut{rows("t", "a", 0, 2), gone("u", "b", 2)}, Add: []api.Note{{ID: 3, Body: "three"}, {ID: 300}}})
	told(t, "Flush", s.Flush(), api.OK)
	told(t, "Apply", s.Apply(muts(rows("t", "a", 2, 2))), api.OK)
	told(t, "Flush", s.Flush(), api.OK)
	told(t, "Apply", s.Apply(muts(gone("t", "c", 2))), api.OK)
	s.Sync()
	told(t, "Apply", s.Apply(muts(gone("t", "d", 2))), api.OK)
	d.Append("torn")
	d.Put(77, "another's")
	return d
}

// turned is a shelf with another man.
func turned(d *shelf.Shelf, man string) *shelf.Shelf {
	c := d.Copy()
	log := c.Log()
	c.Turn(man)
	c.Append(log)
	return c
}

func TestOpen(t *testing.T) {
	d := full(t)
	s := open(t, d)
	want := paper{[]api.Batch{
		{Muts: []api.Mut{rows("t", "a", 0, 4), gone("u", "b", 2), gone("t", "c", 2), gone("t", "d", 2)}, Add: []api.Note{{ID: 3, Body: "three"}, {ID: 300}}},
	}}.text()
	has(t, "opened", s, want)
	if d.Unsynced() != 0 || strings.HasSuffix(d.Log(), "torn") || slices.Contains(d.Nums(), 77) || len(d.Nums()) != 3 {
		t.Errorf("%d not synced, files %d", d.Unsynced(), d.Nums())
	}
	lay := disk(d)
	has(t, "opened again", open(t, d), want)
	if disk(d) != lay {
		t.Error("opened again: the shelf is another")
	}
}

func TestOpenWithoutAMan(t *testing.T) {
	d := shelf.New()
	d.Put(1, "another's")
	body, _ := sst.Put("t", []api.Part{{Key: "k"}})
	d.Put(2, body)
	has(t, "files that no man names", open(t, d), "")
	if len(d.Nums()) != 0 {
		t.Errorf("files %d", d.Nums())
	}
}

func TestOpenOfAManThatIsNone(t *testing.T) {
	d := full(t)
	man := d.Man()
	for _, text := range []string{"no man", "\x00", "\x00\x00\x00", "\x00\x00\x00\x00", strings.Repeat("\x00", 7), xs(4), xs(1000), string(packed(api.Batch{})), man + man, man + "\x00", "\x00" + man} {
		closed(t, strconv.Quote(short(text)), turned(d, text), api.ErrBytes)
	}
	for i := range len(man) {
		if i > 0 {
			closed(t, "a man up to "+strconv.Itoa(i), turned(d, man[:i]), api.ErrBytes)
		}
		for bit := range 8 {
			b := []byte(man)
			b[i] ^= 1 << bit
			closed(t, "byte "+strconv.Itoa(i), turned(d, string(b)), api.ErrBytes)
		}
	}
	has(t, "the man itself", open(t, turned(d, man)), text(t, open(t, d)))
}

func TestOpenOfWhatNoStoreTurns(t *testing.T) {
	d := full(t)
	nums := d.Nums()
	may := man{files: nums[:3], last: nums[2], notes: []api.Note{{ID: 3}, {ID: 5}}}
	for _, x := range []struct {
		what string
		m    man
		want api.Errno
	}{
		{"as it may be", may, api.OK},
		{"a greater last one", man{may.files, 1 << 30, may.notes}, api.OK},
		{"files that fall", man{[]int{nums[1], nums[0], nums[2]}, may.last, may.notes}, api.ErrBytes},
		{"files that fall at the end", man{[]int{nums[0], nums[2], nums[1]}, may.last, may.notes}, api.ErrBytes},
		{"a file twice", man{[]int{nums[0], nums[1], nums[1]}, may.last, may.notes}, api.ErrBytes},
		{"a last one that is less", man{may.files, nums[1], may.notes}, api.ErrBytes},
		{"notes that fall", man{may.files, may.last, []api.Note{{ID: 5}, {ID: 3}}}, api.ErrBytes},
		{"a note twice", man{may.files, may.last, []api.Note{{ID: 5}, {ID: 5}}}, api.ErrBytes},
	} {
		text, err := putMan(x.m)
		if err != nil {
			t.Fatal(x.what)
		}
		if x.want != api.OK {
			closed(t, x.what, turned(d, text), x.want)
			continue
		}
		open(t, turned(d, text))
	}
	for _, b := range []api.Batch{muts(gone("t", "k", 1)), {Muts: []api.Mut{gone("t", "k", 1)}, Drop: []int{1, 2, 3}}} {
		body := string(packed(b))
		closed(t, "a batch with muts", turned(d, body+sum(body)), api.ErrBytes)
	}
	for _, body := range []string{"", "\x00", "\x00\x00\x00\x00", "\x00\x00\x01\x00", "no man"} {
		closed(t, "no batch, with its sum", turned(d, body+sum(body)), api.ErrBytes)
	}
}

func TestOpenOfFilesThatAreNone(t *testing.T) {
	d := full(t)
	nums := d.Nums()[:3]
	for _, n := range nums {
		body, _ := d.Get(n)
		for _, other := range []string{"", "none", body[:len(body)-1], body + "\x00", strings.Replace(body, "\x01", "\x02", 1)} {
			c := d.Copy()
			c.Drop(n)
			closed(t, "not there", c, api.ErrNone)
			c.Put(n, other)
			closed(t, "none", c, api.ErrBytes)
			for _, m := range nums {
				if m != n {
					e := c.Copy()
					e.Drop(m)
					closed(t, "one none, one not there", e, api.ErrBytes)
				}
			}
		}
	}
	c := d.Copy()
	for _, n := range nums {
		c.Drop(n)
	}
	closed(t, "none there", c, api.ErrNone)
}

// replaced is a shelf with other tables in its files.
func replaced(t *testing.T, d *shelf.Shelf, lists ...[]api.Mut) *shelf.Shelf {
	t.Helper()
	c := d.Copy()
	for i, list := range lists {
		var parts []api.Part
		for _, m := range list {
			parts = append(parts, m.Part)
		}
		n := c.Nums()[i]
		body, e := sst.Put(list[0].Table, parts)
		told(t, "Put", e, api.OK)
		c.Drop(n)
		c.Put(n, body)
	}
	return c
}

func TestOpenOfTooMuchInFiles(t *testing.T) {
	d := full(t)
	for _, x := range []struct {
		what  string
		lists [][]api.Mut
		want  api.Errno
	}{
		{"partitions", [][]api.Mut{keyed("t", 0, 50), keyed("t", 50, 48), names("u")}, api.OK},
		{"too many partitions", [][]api.Mut{keyed("t", 0, 50), names("u"), keyed("t", 50, 51)}, api.ErrBytes},
		{"rows", [][]api.Mut{{rows("t", "a", 0, 50)}, {rows("t", "a", 40, 60)}, names("u")}, api.OK},
		{"too many rows", [][]api.Mut{{rows("t", "a", 0, 50)}, {rows("t", "a", 50, 51)}, names("u")}, api.ErrBytes},
	} {
		c := replaced(t, d, x.lists...)
		if x.want != api.OK {
			closed(t, x.what, c, x.want)
			continue
		}
		open(t, c)
	}
	s, d, _ := with(t, muts(names("abcdefgh")...))
	told(t, "Flush", s.Flush(), api.OK)
	told(t, "Apply", s.Apply(muts(names("a")...)), api.OK)
	told(t, "Flush", s.Flush(), api.OK)
	lists := [][]api.Mut{names("i"), names("b"), names("c"), names("d"), names("e"), names("f"), names("g"), names("h"), names("j")}
	closed(t, "nine tables", replaced(t, d, lists...), api.ErrBytes)
	lists[8] = names("i")
	open(t, replaced(t, d, lists...))
}

func TestOpenOfAFileWithoutPartitions(t *testing.T) {
	s, d, _ := with(t, muts(names("ab")...))
	told(t, "Flush", s.Flush(), api.OK)
	n := d.Nums()[0]
	d.Drop(n)
	body, _ := sst.Put("a", nil)
	d.Put(n, body)
	if s = open(t, d); len(s.Tables()) != 1 || s.Tables()[0] != "b" {
		t.Errorf("Tables: %q", s.Tables())
	}
}

func TestRecordsThatAreNone(t *testing.T) {
	good := []api.Batch{{Muts: []api.Mut{rows("t", "k", 0, 100)}, Add: first(2, 100)}, muts(gone("t", "l", 1)), {}, adds(api.Note{ID: 5, Body: xs(300)})}
	late := api.Batch{Muts: names("z"), Add: []api.Note{{ID: 9, Body: "z"}}}
	none := map[string]string{
		"nothing":            "",
		"no batch":           "no batch",
		"a batch, and more":  string(packed(late)) + "\x00",
		"a batch that ends":  string(packed(late)[:5]),
		"no room for a row":  string(packed(muts(names("y")[0], rows("t", "k", 100, 1)))),
		"what may not be":    "\x00\x00\x01\x00",
		"a name that is not": "\x01\x01" + "\x01\x01" + "T" + "\x01\x03" + "\x00\x00\x00" + "\x00\x00",
	}
	for what, body := range none {
		for n := range len(good) + 1 {
			log := logged(good[:n]...)
			if n == 0 && what == "no room for a row" {
				continue
			}
			end := len(log)
			log = segment.Put(log, body)
			for _, b := range append(good[n:], late) {
				log = segment.Put(log, string(packed(b)))
			}
			d := shelf.New()
			d.Append(string(log))
			s := open(t, d)
			has(t, what, s, paper{good[:n]}.text())
			if d.Log() != string(log[:end]) || d.Unsynced() != 0 {
				t.Fatalf("%s behind %d: a log of %d bytes, not %d; %d not synced", what, n, len(d.Log()), end, d.Unsynced())
			}
			told(t, "goes on", s.Apply(late), api.OK)
			has(t, "goes on", open(t, d), paper{append(slices.Clone(good[:n]), late)}.text())
		}
	}
}

func TestRecordsThatHaveNoRoom(t *testing.T) {
	for _, x := range []struct {
		what        string
		first, next api.Batch
	}{
		{"tables", muts(names("abcdefgh")...), muts(names("i")...)},
		{"partitions", muts(keyed("t", 0, 60)...), muts(keyed("t", 60, 41)...)},
		{"rows", muts(rows("t", "k", 0, 100)), muts(rows("t", "k", 100, 1))},
		{"notes", adds(first(api.MaxNotes, 0)...), adds(api.Note{ID: 301})},
	} {
		for flush := range 2 {
			s, d, _ := with(t, x.first)
			if flush == 1 {
				told(t, "Flush", s.Flush(), api.OK)
			}
			log := d.Log()
			d.Cut(0)
			all := []byte(log)
			for _, b := range []api.Batch{x.next, muts(gone("a", "behind", 1)), x.next} {
				all = segment.Put(all, string(packed(b)))
			}
			d.Append(string(all))
			has(t, x.what, open(t, d), paper{[]api.Batch{x.first}}.text())
			if d.Log() != log {
				t.Fatalf("%s: a log of %d bytes, not %d", x.what, len(d.Log()), len(log))
			}
		}
	}
}

func TestOpenOfAnyLog(t *testing.T) {
	r := rand.New(rand.NewSource(12))
	good := []api.Batch{muts(rows("t", "k", 0, 9)), adds(first(2, 60)...), muts(gone("t", "l", 1)), {Drop: []int{1}}, muts(rows("u", "k", 4, 20))}
	whole := logged(good...)
	for range 2000 {
		log := slices.Clone(whole)
		for range r.Intn(3) {
			log[r.Intn(len(log))] = byte(r.Intn(256))
		}
		log = log[:r.Intn(len(log)+1)]
		d := shelf.New()
		d.Append(string(log))
		s := open(t, d)
		bodies, end := segment.Scan(log)
		want := paper{}
		for _, body := range bodies {
			b, _ := pack.GetBatch([]byte(body))
			want.batches = append(want.batches, b)
		}
		has(t, "a log with turned bytes", s, want.text())
		if d.Log() != string(log[:end]) {
			t.Fatalf("a log of %d bytes, not %d", len(d.Log()), end)
		}
	}
}
