package store

import (
	"math"
	"math/rand"
	"slices"
	"testing"

	"clerestory/api"
	"clerestory/shelf"
)

// P12.4

func TestCrash(t *testing.T) {
	batches := []api.Batch{
		muts(gone("t", "a", 1)),
		{Muts: []api.Mut{rows("t", "b", 0, 12), gone("u", "a", 3)}, Add: first(2, 150)},
		{Add: []api.Note{{ID: 2, Body: "two"}}, Drop: []int{1}},
		muts(rows("t", "b", 8, 30), gone("t", "a", 5)),
		{},
		adds(first(4, 40)...),
	}
	for synced := range len(batches) + 1 {
		s, d, _ := with(t, batches[:synced]...)
		s.Sync()
		ends := []int{0} // of what is not synced
		for _, b := range batches[synced:] {
			told(t, "Apply", s.Apply(b), api.OK)
			ends = append(ends, d.Unsynced())
		}
		for keep := -1; keep <= d.Unsynced()+1; keep++ {
			c := d.Copy()
			c.Crash(keep)
			n := synced
			for n < len(batches) && ends[n+1-synced] <= keep {
				n++
			}
			got := open(t, c)
			has(t, "behind a crash", got, paper{batches[:n]}.text())
			told(t, "goes on", got.Apply(muts(gone("z", "z", 1))), api.OK)
			has(t, "goes on", open(t, c), paper{append(slices.Clone(batches[:n]), muts(gone("z", "z", 1)))}.text())
		}
	}
}

// life is a store, its shelf, what was applied to it, and what of that a crash does not take.
type life struct {
	s    *Store
	d    *shelf.Shelf
	all  []api.Batch
	safe int
	ends []int // where those that are not safe end in the log
}

// batch is a batch, of few tables, keys and notes.
func batch(r *rand.Rand) api.Batch {
	var b api.Batch
	for range r.Intn(4) {
		table, key := "tuv"[r.Intn(3):][:1], "abcd"[r.Intn(4):][:1]
		switch r.Intn(3) {
		case 0:
			b.Muts = append(b.Muts, gone(table, key, r.Intn(50)))
		case 1:
			b.Muts = append(b.Muts, rows(table, key, r.Intn(95), r.Intn(5)))
		default:
			row := api.Row{Key: three(r.Intn(100)), Gone: r.Intn(9), Shade: r.Intn(9), Cols: []api.Col{{Name: "c", Cell: api.Cell{Val: xs(r.Intn(90)), At: 1 + r.Intn(50)}}}}
			b.Muts = append(b.Muts, api.Mut{Table: table, Part: api.Part{Key: key, Rows: []api.Row{row}}})
		}
	}
	for range r.Intn(3) {
		b.Add = append(b.Add, api.Note{ID: 1 + r.Intn(12), Body: xs(r.Intn(300))})
	}
	for range r.Intn(3) {
		b.Drop = append(b.Drop, 1+r.Intn(12))
	}
	return b
}

// step is something that a store goes through.
func (l *life) step(t *testing.T, r *rand.Rand) {
	t.Helper()
	switch r.Intn(12) {
	case 0:
		l.s.Sync()
		l.safe, l.ends = len(l.all), nil
	case 1:
		call := l.s.Flush
		if r.Intn(4) == 0 {
			call = l.s.Squash
		}
		told(t, "Flush or Squash", call(), api.OK)
		l.safe, l.ends = len(l.all), nil
		if len(l.s.files) > 24 {
			t.Fatalf("files %d", l.s.files)
		}
	case 2:
		l.crash(t, r)
	case 3:
		l.d.Put(1<<30+r.Intn(3), "another's")
	default:
		b := batch(r)
		if !l.s.Fits(b) {
			t.Fatal("Fits")
		}
		told(t, "Apply", l.s.Apply(b), api.OK)
		l.all, l.ends = append(l.all, b), append(l.ends, len(l.d.Log()))
	}
	has(t, "a step", l.s, paper{l.all}.text())
}

// crash lets some bytes be, and opens the store again.
func (l *life) crash(t *testing.T, r *rand.Rand) {
	t.Helper()
	keep := r.Intn(l.d.Unsynced() + 1)
	if r.Intn(4) == 0 {
		keep = []int{math.MinInt, -1, 0, math.MaxInt}[r.Intn(4)]
	}
	l.d.Crash(keep)
	n := 0
	for n < len(l.ends) && l.ends[n] <= len(l.d.Log()) {
		n++
	}
	l.all = l.all[:l.safe+n]
	l.safe, l.ends = len(l.all), nil
	l.s = open(t, l.d)
	if l.d.Unsynced() != 0 || slices.ContainsFunc(l.d.Nums(), func(n int) bool { return n >= 1<<30 }) {
		t.Fatalf("%d not synced, files %d", l.d.Unsynced(), l.d.Nums())
	}
}

func TestLives(t *testing.T) {
	for seed := range 20 {
		r := rand.New(rand.NewSource(int64(seed)))
		var lives []*life
		for range 2 {
			d := shelf.New()
			lives = append(lives, &life{s: open(t, d), d: d})
		}
		for range 300 {
			lives[r.Intn(len(lives))].step(t, r)
		}
		for _, l := range lives {
			has(t, "in the end", l.s, paper{l.all}.text())
		}
	}
}
