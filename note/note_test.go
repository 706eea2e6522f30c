package note

import (
	"math"
	"math/rand"
	"slices"
	"strconv"
	"strings"
	"testing"

	"clerestory/api"
)

// xs is a text of so many letters.
func xs(n int) string {
	return strings.Repeat("x", n)
}

// brief is notes as a text, with the middles of long bodies left out.
func brief(list []api.Note) string {
	text := strconv.Itoa(len(list)) + ":"
	for _, x := range list {
		body := x.Body
		if len(body) > 20 {
			body = body[:5] + ".." + body[len(body)-5:]
		}
		text += " " + strconv.Itoa(x.ID) + " " + strconv.Quote(body)
	}
	return text
}

// is asks whether notes are just those of a list, by all calls that tell of them.
func is(t *testing.T, what string, n *Notes, want []api.Note) {
	t.Helper()
	if all := n.All(); !slices.Equal(all, want) {
		t.Fatalf("%s: %s, not %s", what, brief(all), brief(want))
	}
	for _, x := range want {
		got(t, what, n, x)
	}
}

// got asks whether a note is got as it must be.
func got(t *testing.T, what string, n *Notes, want api.Note) {
	t.Helper()
	if body, ok := n.Get(want.ID); body != want.Body || !ok {
		t.Fatalf("%s: Get(%d): %s, %v", what, want.ID, brief([]api.Note{{ID: want.ID, Body: body}}), ok)
	}
}

// none asks whether a number has nothing.
func none(t *testing.T, what string, n *Notes, id int) {
	t.Helper()
	if body, ok := n.Get(id); body != "" || ok {
		t.Fatalf("%s: Get(%d): %q, %v", what, id, body, ok)
	}
}

// said asks whether a call answers what it must.
func said(t *testing.T, what string, got, want bool) {
	t.Helper()
	if got != want {
		t.Fatalf("%s: %v", what, got)
	}
}

// of is what has just the notes of a list.
func of(t *testing.T, list []api.Note) *Notes {
	t.Helper()
	n := New()
	for _, x := range list {
		said(t, "Add of "+brief([]api.Note{x}), n.Add(x), true)
	}
	return n
}

// some are a few notes, rising, those of both ends with them.
func some() []api.Note {
	return []api.Note{{ID: 1, Body: "one"}, {ID: 2}, {ID: 7, Body: "seven"}, {ID: 1 << 33, Body: "\x00\xff\xfe"}, {ID: api.MaxStamp, Body: xs(api.MaxBody)}}
}

// first are the notes of the numbers from 1 to many.
func first(many int) []api.Note {
	var list []api.Note
	for i := range many {
		list = append(list, api.Note{ID: i + 1, Body: "b" + strconv.Itoa(i+1)})
	}
	return list
}

// wrong are numbers that no note may have.
func wrong() []int {
	return []int{math.MinInt, math.MinInt + 1, math.MinInt32, -api.MaxStamp, -7, -1, 0, api.MaxStamp + 1, api.MaxStamp + 2, 1<<41 + 7, math.MaxInt}
}

// P11.1 Add

func TestNew(t *testing.T) {
	n := New()
	is(t, "a new one", n, nil)
	for _, id := range append(wrong(), 1, 2, api.MaxStamp) {
		none(t, "a new one", n, id)
		said(t, "Drop of a new one", n.Drop(id), false)
	}
	is(t, "a new one, asked", n, nil)
}

func TestAddNumbers(t *testing.T) {
	for _, body := range []string{"", "body", xs(api.MaxBody), xs(api.MaxBody + 1)} {
		for _, id := range wrong() {
			for _, have := range [][]api.Note{nil, some(), first(api.MaxNotes)} {
				n := of(t, have)
				said(t, "Add of a number that may not be", n.Add(api.Note{ID: id, Body: body}), false)
				none(t, "a number that may not be", n, id)
				is(t, "a number that may not be", n, have)
			}
		}
	}
	for _, id := range []int{1, 2, api.MaxNotes, api.MaxNotes + 1, 1<<31 - 1, 1 << 31, 1 << 32, api.MaxStamp - 1, api.MaxStamp} {
		n := New()
		said(t, "Add", n.Add(api.Note{ID: id, Body: "body"}), true)
		is(t, "added", n, []api.Note{{ID: id, Body: "body"}})
		none(t, "the number ahead", n, id-1)
		none(t, "the number behind", n, id+1)
	}
}

func TestAddBodies(t *testing.T) {
	two := "é" // of two bytes
	for _, body := range []string{"", "b", " ", "\n", "\x00", "\xff\xfe\xc3", two, xs(api.MaxBody - 1), xs(api.MaxBody), strings.Repeat(two, api.MaxBody/2), strings.Repeat("\x00", api.MaxBody)} {
		n := of(t, some())
		said(t, "Add", n.Add(api.Note{ID: 3, Body: body}), true)
		is(t, "added", n, slices.Insert(some(), 2, api.Note{ID: 3, Body: body}))
	}
	for _, body := range []string{xs(api.MaxBody + 1), xs(api.MaxBody + 2), xs(2 * api.MaxBody), xs(1 << 20), strings.Repeat(two, api.MaxBody/2+1), strings.Repeat(two, api.MaxBody), strings.Repeat("\x00", api.MaxBody+1)} {
		n := of(t, some())
		said(t, "Add of too many bytes", n.Add(api.Note{ID: 3, Body: body}), false)
		none(t, "too many bytes", n, 3)
		is(t, "too many bytes", n, some())
		for _, x := range some() {
			said(t, "too many bytes in place of others", n.Add(api.Note{ID: x.ID, Body: body}), false)
			is(t, "too many bytes in place of others", n, some())
		}
	}
}

func TestAddInPlace(t *testing.T) {
	for i, x := range some() {
		n, want := of(t, some()), some()
		for _, body := range []string{"other", "", x.Body, xs(api.MaxBody), "z", "z"} {
			want[i].Body = body
			said(t, "Add in place", n.Add(want[i]), true)
			is(t, "in place", n, want)
		}
		said(t, "Drop of what was put in place", n.Drop(x.ID), true)
		is(t, "dropped", n, slices.Delete(want, i, i+1))
	}
}

func TestAddRoom(t *testing.T) {
	n := New()
	for i, x := range first(api.MaxNotes) {
		said(t, "Add", n.Add(x), true)
		is(t, "added", n, first(i+1))
	}
	for _, id := range []int{api.MaxNotes + 1, api.MaxNotes + 2, 1 << 32, api.MaxStamp} {
		said(t, "one too many", n.Add(api.Note{ID: id}), false)
		none(t, "one too many", n, id)
		is(t, "one too many", n, first(api.MaxNotes))
	}
	want := first(api.MaxNotes)
	for i := range want {
		want[i].Body = "other " + want[i].Body
		said(t, "in place, where there is no room", n.Add(want[i]), true)
	}
	is(t, "in place, where there is no room", n, want)
	for i, x := range want {
		said(t, "Drop", n.Drop(x.ID), true)
		said(t, "Drop again", n.Drop(x.ID), false)
		next := api.Note{ID: api.MaxStamp - i, Body: "next"}
		said(t, "one for one that went", n.Add(next), true)
		said(t, "the one that went", n.Add(x), false)
		said(t, "the next one", n.Add(api.Note{ID: next.ID - 1}), false)
		got(t, "one for one that went", n, next)
		none(t, "the one that went", n, x.ID)
		if many := len(n.All()); many != api.MaxNotes {
			t.Fatalf("%d notes", many)
		}
	}
}

func TestAddRoomOfGreatBodies(t *testing.T) {
	n := New()
	var want []api.Note
	for i := range api.MaxNotes {
		x := api.Note{ID: 3*i + 1, Body: strings.Repeat(string(rune('a'+i%26)), api.MaxBody)}
		said(t, "Add", n.Add(x), true)
		want = append(want, x)
	}
	is(t, "full of great bodies", n, want)
	said(t, "one too many", n.Add(api.Note{ID: 2}), false)
	is(t, "one too many", n, want)
}

// P11.1 Drop, Get, All

func TestDropAndGet(t *testing.T) {
	for _, have := range [][]api.Note{nil, some(), first(api.MaxNotes)} {
		n := of(t, have)
		for _, id := range append(wrong(), 301, 1<<33-1, 1<<33+1, api.MaxStamp-1) {
			none(t, "one that is not there", n, id)
			said(t, "Drop of one that is not there", n.Drop(id), false)
			is(t, "Drop of one that is not there", n, have)
		}
		left := slices.Clone(have)
		for i := 0; len(left) > 0; i++ {
			at := (5 * i) % len(left)
			id := left[at].ID
			said(t, "Drop", n.Drop(id), true)
			left = slices.Delete(left, at, at+1)
			none(t, "dropped", n, id)
			said(t, "Drop again", n.Drop(id), false)
			is(t, "dropped", n, left)
		}
		for i, x := range have {
			none(t, "all gone", n, x.ID)
			said(t, "Add of one that was gone", n.Add(x), true)
			is(t, "there again", n, have[:i+1])
		}
	}
}

func TestAddThenDrop(t *testing.T) {
	n := New()
	said(t, "Add", n.Add(api.Note{ID: 1, Body: "body"}), true)
	said(t, "Drop", n.Drop(1), true)
	none(t, "dropped", n, 1)
	is(t, "dropped", n, nil)
	said(t, "Add of nothing", n.Add(api.Note{ID: 1}), true)
	got(t, "a note of an empty body is there", n, api.Note{ID: 1})
	said(t, "Drop of an empty body", n.Drop(1), true)
	none(t, "dropped", n, 1)
}

func TestAll(t *testing.T) {
	for _, ids := range [][]int{{1}, {1, 2, 3}, {3, 2, 1}, {api.MaxStamp, 1}, {9, 10, 100, 2, 20}, {1 << 32, 1<<32 + 1, 1, 1 << 31, 1<<31 - 1, 2}} {
		n := New()
		var want []api.Note
		for _, id := range ids {
			x := api.Note{ID: id, Body: "z" + strconv.Itoa(9999-id%1000)}
			n.Add(x)
			want = append(want, x)
		}
		slices.SortFunc(want, func(a, b api.Note) int { return a.ID - b.ID })
		is(t, "by number", n, want)
	}
	r := rand.New(rand.NewSource(3))
	for range 200 {
		n := New()
		var want []api.Note
		for range 1 + r.Intn(api.MaxNotes) {
			x := api.Note{ID: 1 + r.Intn(1<<(10+r.Intn(31))), Body: strconv.Itoa(r.Int())}
			n.Add(x)
			want = slices.DeleteFunc(want, func(y api.Note) bool { return y.ID == x.ID })
			want = append(want, x)
		}
		slices.SortFunc(want, func(a, b api.Note) int { return a.ID - b.ID })
		is(t, "by number", n, want)
	}
}

func TestAllNewMemory(t *testing.T) {
	for _, have := range [][]api.Note{some(), first(api.MaxNotes)} {
		n := of(t, have)
		all, again := n.All(), n.All()
		for i := range all[:cap(all)] {
			all[:cap(all)][i] = api.Note{ID: 99, Body: "written over"}
		}
		if !slices.Equal(again, have) {
			t.Errorf("two lists share memory: %s", brief(again))
		}
		is(t, "a list that was written over", n, have)
		n.Drop(have[0].ID)
		n.Add(api.Note{ID: have[1].ID, Body: "new"})
		if !slices.Equal(again, have) {
			t.Errorf("a list is turned from behind: %s", brief(again))
		}
	}
}

func TestTwoHaveNothingInCommon(t *testing.T) {
	a, b := of(t, some()), of(t, first(api.MaxNotes))
	a.Add(api.Note{ID: 2, Body: "other"})
	a.Drop(1)
	b.Drop(7)
	is(t, "one", b, slices.Delete(first(api.MaxNotes), 6, 7))
	want := slices.Delete(some(), 0, 1)
	want[0].Body = "other"
	is(t, "the other", a, want)
	is(t, "one that is made behind them", New(), nil)
}

// P11.1 Fits

func TestFits(t *testing.T) {
	many, long := api.MaxNotes, xs(api.MaxBody+1)
	for i, x := range []struct {
		have int
		add  []api.Note
		drop []int
		want bool
	}{
		{0, nil, nil, true},
		{many, nil, nil, true},
		{many, nil, []int{1, 0, -1, 999, 1}, true},
		// what each one says of itself
		{0, []api.Note{{}}, nil, false},
		{0, []api.Note{{ID: -1}}, nil, false},
		{0, []api.Note{{ID: 1}}, nil, true},
		{0, []api.Note{{ID: api.MaxStamp}}, nil, true},
		{0, []api.Note{{ID: api.MaxStamp + 1}}, nil, false},
		{0, []api.Note{{ID: 5, Body: xs(api.MaxBody)}}, nil, true},
		{0, []api.Note{{ID: 5, Body: long}}, nil, false},
		{5, []api.Note{{ID: 5, Body: long}}, []int{5}, false},
		// the one that goes not may stand anywhere
		{3, []api.Note{{}, {ID: 4}, {ID: 5}}, nil, false},
		{3, []api.Note{{ID: 4}, {}, {ID: 5}}, nil, false},
		{3, []api.Note{{ID: 4}, {ID: 5}, {}}, nil, false},
		{3, []api.Note{{ID: 4, Body: long}, {ID: 4}}, nil, false},
		{3, []api.Note{{ID: 4}, {ID: 4, Body: long}}, nil, false},
		// room
		{0, first(many), nil, true},
		{0, first(many + 1), nil, false},
		{many, first(many), nil, true},
		{many - 1, []api.Note{{ID: 900}}, nil, true},
		{many - 1, []api.Note{{ID: 900}, {ID: 901}}, nil, false},
		{many - 1, []api.Note{{ID: 900}, {ID: 900}, {ID: 900}}, nil, true},
		{many - 1, []api.Note{{ID: 900}, {ID: 3}, {ID: 900}, {ID: 299}}, nil, true},
		{many, []api.Note{{ID: 900}}, nil, false},
		{many, []api.Note{{ID: 7}, {ID: 300}, {ID: 1}}, nil, true},
		{many, []api.Note{{ID: 7}, {ID: 301}}, nil, false},
		// behind those that are gone
		{many, []api.Note{{ID: 900}}, []int{7}, true},
		{many, []api.Note{{ID: 900}, {ID: 901}}, []int{7}, false},
		{many, []api.Note{{ID: 900}, {ID: 901}}, []int{7, 7}, false},
		{many, []api.Note{{ID: 900}, {ID: 901}}, []int{7, 8}, true},
		{many, []api.Note{{ID: 900}}, []int{901}, false},
		{many, []api.Note{{ID: 900}}, []int{900}, false},
		{many, []api.Note{{ID: 900}}, []int{0, -1, api.MaxStamp + 1}, false},
		{many, []api.Note{{ID: 900}}, []int{0, 900, 7, -5}, true},
		{many, []api.Note{{ID: 7}}, []int{7}, true},
		{many, []api.Note{{ID: 7}, {ID: 900}}, []int{7}, false},
		{many, []api.Note{{ID: 900}, {ID: 7}}, []int{7}, false},
		{many, []api.Note{{ID: 900}, {ID: 8}}, []int{7}, true},
		{many, []api.Note{{ID: 900}, {ID: 900}}, []int{7}, true},
		{2, first(many), []int{1, 2}, true},
		{2, first(many + 1), []int{1, 2}, false},
	} {
		n := of(t, first(x.have))
		add, drop := slices.Clone(x.add), slices.Clone(x.drop)
		for range 2 {
			said(t, "Fits of line "+strconv.Itoa(i), n.Fits(add, drop), x.want)
			is(t, "Fits of line "+strconv.Itoa(i), n, first(x.have))
		}
		if !slices.Equal(add, x.add) || !slices.Equal(drop, x.drop) {
			t.Errorf("line %d: a list that was handed in is changed", i)
		}
	}
}

func TestFitsKeepsNoList(t *testing.T) {
	n := of(t, some())
	add, drop := first(3), []int{7, 1}
	said(t, "Fits", n.Fits(add, drop), true)
	clear(add)
	clear(drop)
	is(t, "lists that were written over", n, some())
	said(t, "Fits", n.Fits(first(3), []int{7, 1}), true)
	said(t, "Add behind Fits", n.Add(api.Note{ID: 3}), true)
	said(t, "Drop behind Fits", n.Drop(7), true)
}

func TestFitsOfLongLists(t *testing.T) {
	n := of(t, first(api.MaxNotes))
	var add []api.Note
	var drop []int
	for i := range 100000 {
		add = append(add, api.Note{ID: 901 + i%2, Body: "body"})
		drop = append(drop, 200000-i)
	}
	said(t, "drops that are not there", n.Fits(add, drop[:99999]), false)
	said(t, "one that is", n.Fits(add, append(drop, 300)), false)
	said(t, "two that are", n.Fits(add, append(drop, 300, 1)), true)
	said(t, "all of them", n.Fits(first(api.MaxNotes), append(drop, 300, 1)), true)
	is(t, "long lists", n, first(api.MaxNotes))
}

// dice throw what is done to notes.
type dice struct {
	*rand.Rand
}

// number is a note's, most of them next to each other.
func (d dice) number() int {
	switch d.Intn(400) {
	case 0:
		return wrong()[d.Intn(len(wrong()))]
	case 1:
		return api.MaxStamp + d.Intn(3) - 1
	}
	return 1 + d.Intn(2*api.MaxNotes)
}

// body is a text, now and then as long as one may be, or longer.
func (d dice) body() string {
	letter := string(rune('a' + d.Intn(26)))
	if d.Intn(200) == 0 {
		return strings.Repeat(letter, api.MaxBody+d.Intn(3)-1)
	}
	return strings.Repeat(letter, d.Intn(12))
}

// paper is notes as they may be written down: a list, rising.
type paper []api.Note

// find is where a number is, or would be, and whether it is.
func (p paper) find(id int) (int, bool) {
	return slices.BinarySearchFunc(p, id, func(x api.Note, id int) int { return x.ID - id })
}

// add is Add on paper.
func (p *paper) add(x api.Note) bool {
	if x.ID <= 0 || x.ID > 1<<40 || len(x.Body) > 4096 {
		return false
	}
	at, there := p.find(x.ID)
	if there {
		*p = slices.Clone(*p)
		(*p)[at] = x
		return true
	}
	if len(*p) == 300 {
		return false
	}
	*p = slices.Insert(slices.Clone(*p), at, x)
	return true
}

// drop is Drop on paper.
func (p *paper) drop(id int) bool {
	at, there := p.find(id)
	if there {
		*p = slices.Delete(slices.Clone(*p), at, at+1)
	}
	return there
}

// step does one thing to notes, and to the paper of them.
func (d dice) step(t *testing.T, n *Notes, p *paper) {
	t.Helper()
	id, body := d.number(), d.body()
	if d.Intn(5) > 0 {
		x := api.Note{ID: id, Body: body}
		said(t, "Add of "+brief([]api.Note{x}), n.Add(x), p.add(x))
	} else {
		said(t, "Drop of "+strconv.Itoa(id), n.Drop(id), p.drop(id))
	}
	if at, there := p.find(id); there {
		got(t, "what was turned", n, (*p)[at])
	} else {
		none(t, "what was turned", n, id)
	}
}

func TestAnySteps(t *testing.T) {
	d := dice{rand.New(rand.NewSource(11))}
	notes, papers := []*Notes{New(), New(), New()}, make([]paper, 3)
	for range 5000 {
		i, other := d.Intn(len(notes)), d.Intn(len(notes))
		d.step(t, notes[i], &papers[i])
		is(t, "the one that was turned", notes[i], papers[i])
		is(t, "one of all", notes[other], papers[other])
	}
	for i, p := range papers {
		if len(p) < api.MaxNotes-50 {
			t.Errorf("%d: %d notes only: too few to tell of room", i, len(p))
		}
	}
}

// TestFitsIsDoing holds Fits against what comes of it when all is done.
func TestFitsIsDoing(t *testing.T) {
	d := dice{rand.New(rand.NewSource(12))}
	told := make(map[bool]int)
	for range 2000 {
		have := first(api.MaxNotes - d.Intn(5))
		n, p := of(t, have), paper(have)
		var drop []int
		var add []api.Note
		for range d.Intn(8) {
			drop = append(drop, d.number())
		}
		for range d.Intn(10) {
			add = append(add, api.Note{ID: d.number(), Body: d.body()})
		}
		fits := n.Fits(add, drop)
		is(t, "Fits", n, have)
		for _, id := range drop {
			said(t, "Drop", n.Drop(id), p.drop(id))
		}
		want := true
		for _, x := range add {
			went := p.add(x)
			said(t, "Add", n.Add(x), went)
			want = want && went
		}
		said(t, "Fits of "+brief(add), fits, want)
		told[want]++
	}
	if told[true] < 400 || told[false] < 400 {
		t.Errorf("%d that fit, %d that don't: too few of one to tell", told[true], told[false])
	}
}

// P11.2

func TestWhatIsAddedLastIsGot(t *testing.T) {
	d := dice{rand.New(rand.NewSource(13))}
	n := New()
	last := make(map[int]api.Note)
	for i := range 20000 {
		id := 1 + d.Intn(400)
		x := api.Note{ID: id, Body: strconv.Itoa(i) + d.body()}
		if d.Intn(6) == 0 {
			n.Drop(id)
			delete(last, id)
			none(t, "dropped", n, id)
		} else if n.Add(x) {
			last[id] = x
			got(t, "added last", n, x)
		}
		if i%50 > 0 {
			continue
		}
		for id := 1; id <= 400; id++ {
			if x, there := last[id]; there {
				got(t, "added last", n, x)
			} else {
				none(t, "not there", n, id)
			}
		}
	}
}
