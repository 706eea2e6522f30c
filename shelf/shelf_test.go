package shelf

import (
	"math"
	"math/rand"
	"slices"
	"strconv"
	"strings"
	"testing"

	"clerestory/api"
)

// xs is a text of so many letters.
func xs(n int) string {
	return strings.Repeat("x", n)
}

// paper is a shelf as it may be written down: nothing of it is shared, and what is synced of the log stands apart from what is not.
type paper struct {
	synced, loose string
	files         []sheet
	man           string
}

// sheet is a file.
type sheet struct {
	n    int
	body string
}

// seen is what the calls of a shelf tell of it.
func seen(t *testing.T, s *Shelf) paper {
	t.Helper()
	log, loose := s.Log(), s.Unsynced()
	if loose < 0 || loose > len(log) {
		t.Fatalf("%d of %d bytes not synced", loose, len(log))
	}
	p := paper{synced: log[:len(log)-loose], loose: log[len(log)-loose:], man: s.Man()}
	for _, n := range s.Nums() {
		body, e := s.Get(n)
		if e != api.OK {
			t.Fatalf("Get(%d): %d", n, e)
		}
		p.files = append(p.files, sheet{n, body})
	}
	return p
}

// same tells whether two are alike.
func same(a, b paper) bool {
	return a.synced == b.synced && a.loose == b.loose && a.man == b.man && slices.Equal(a.files, b.files)
}

// is asks whether a shelf is as it must be.
func is(t *testing.T, what string, s *Shelf, want paper) {
	t.Helper()
	if got := seen(t, s); !same(got, want) {
		t.Fatalf("%s: %s, not %s", what, brief(got), brief(want))
	}
}

// brief is a paper with the middles of its long texts left out.
func brief(p paper) string {
	short := func(s string) string {
		if len(s) > 40 {
			s = s[:10] + ".." + s[len(s)-10:]
		}
		return strconv.Quote(s)
	}
	text := "log " + short(p.synced) + " and " + short(p.loose) + ", man " + short(p.man) + ", files"
	for _, f := range p.files {
		text += " " + short(f.body)
	}
	return text
}

// told asks whether a call answers what it must.
func told(t *testing.T, what string, got, want api.Errno) {
	t.Helper()
	if got != want {
		t.Fatalf("%s: %d, not %d", what, got, want)
	}
}

// full is a shelf with something of all that it may have, and what that is.
func full() (*Shelf, paper) {
	s := New()
	s.Append("abc")
	s.Sync()
	s.Append("de")
	s.Put(7, "seven")
	s.Put(2, "")
	s.Put(api.MaxStamp, "last")
	p := paper{synced: "abc", loose: "de", files: []sheet{{2, ""}, {7, "seven"}, {api.MaxStamp, "last"}}}
	return s, p
}

// ends are numbers of bytes far from any log's.
func ends() []int {
	return []int{math.MinInt, math.MinInt + 1, math.MinInt32, -api.MaxFile, -5, -1, api.MaxFile, api.MaxFile + 1, math.MaxInt32, math.MaxInt - 3, math.MaxInt}
}

// P5.1

func TestNew(t *testing.T) {
	is(t, "a new shelf", New(), paper{})
	is(t, "another one", New(), paper{})
}

func TestAppend(t *testing.T) {
	s := New()
	loose := ""
	for _, body := range []string{"a", "", "bc", "\x00", "\xff\xfe", "\n", "", xs(1000)} {
		told(t, "Append", s.Append(body), api.OK)
		loose += body
		is(t, "appended", s, paper{loose: loose})
	}
	s.Sync()
	is(t, "synced", s, paper{synced: loose})
	s.Sync()
	is(t, "synced twice", s, paper{synced: loose})
	s.Append("")
	is(t, "nothing behind", s, paper{synced: loose})
	s.Append("more")
	is(t, "more behind", s, paper{synced: loose, loose: "more"})
}

func TestAppendRoom(t *testing.T) {
	for _, have := range []int{0, 1, 5000, api.MaxFile - 1, api.MaxFile} {
		left := api.MaxFile - have
		for _, synced := range []bool{false, true} {
			s := New()
			told(t, "the first bytes", s.Append(xs(have)), api.OK)
			was := paper{loose: xs(have)}
			if synced {
				s.Sync()
				was = paper{synced: xs(have)}
			}
			for _, more := range []int{left + 1, left + 2, api.MaxFile + 1, 3 * api.MaxFile} {
				told(t, "a byte too many", s.Append(xs(more)), api.ErrBig)
				is(t, "a byte too many", s, was)
			}
			told(t, "just full", s.Append(xs(left)), api.OK)
			was.loose += xs(left)
			is(t, "just full", s, was)
			told(t, "nothing behind a full log", s.Append(""), api.OK)
			told(t, "a byte behind a full log", s.Append("y"), api.ErrBig)
			is(t, "a full log", s, was)
		}
	}
}

func TestAppendRoomIsBack(t *testing.T) {
	for what, empty := range map[string]func(s *Shelf){
		"Cut":   func(s *Shelf) { s.Cut(0) },
		"Crash": func(s *Shelf) { s.Crash(0) },
		"Turn":  func(s *Shelf) { s.Turn("") },
		"Wipe":  func(s *Shelf) { s.Wipe() },
	} {
		s := New()
		s.Append(xs(api.MaxFile))
		empty(s)
		is(t, what, s, paper{})
		told(t, what, s.Append(xs(api.MaxFile)), api.OK)
		told(t, what, s.Append("x"), api.ErrBig)
	}
}

func TestFilesTakeNoRoomOfTheLog(t *testing.T) {
	s := New()
	for n := range api.MaxFiles {
		told(t, "Put", s.Put(n+1, xs(api.MaxFile)), api.OK)
	}
	told(t, "Turn", s.Turn(xs(api.MaxFile)), api.OK)
	told(t, "Append", s.Append(xs(api.MaxFile)), api.OK)
	if len(s.Log()) != api.MaxFile || len(s.Nums()) != api.MaxFiles || len(s.Man()) != api.MaxFile {
		t.Error("not all of it is there")
	}
}

func TestCut(t *testing.T) {
	for n := range 6 {
		s, p := full()
		s.Cut(n)
		p.synced, p.loose = "abcde"[:n], ""
		is(t, "cut", s, p)
		s.Crash(0)
		is(t, "cut, and crashed", s, p)
		s.Append("fg")
		p.loose = "fg"
		is(t, "gone on with", s, p)
		s.Cut(n + 1)
		p.synced, p.loose = p.synced+"f", ""
		is(t, "cut again", s, p)
	}
	for _, n := range append(ends(), 6, 7) {
		s, p := full()
		s.Cut(n)
		p.synced, p.loose = "abcde", ""
		if n < 0 {
			p.synced = ""
		}
		is(t, "cut far off", s, p)
		empty := New()
		empty.Cut(n)
		is(t, "nothing to cut", empty, paper{})
	}
}

// P5.2

func TestPut(t *testing.T) {
	for _, n := range []int{math.MinInt, -api.MaxStamp, -1, 0, api.MaxStamp + 1, api.MaxStamp + 2, math.MaxInt} {
		s, p := full()
		told(t, "a number that may not be", s.Put(n, "body"), api.ErrArg)
		told(t, "and too many bytes", s.Put(n, xs(api.MaxFile+1)), api.ErrArg)
		is(t, "a number that may not be", s, p)
	}
	for _, n := range []int{1, 2, api.MaxFiles, api.MaxFiles + 1, 1 << 31, api.MaxStamp - 1, api.MaxStamp} {
		for _, body := range []string{"", "b", "\x00\xff\xfe", xs(api.MaxFile - 1), xs(api.MaxFile)} {
			s := New()
			told(t, "too many bytes", s.Put(n, xs(api.MaxFile+1)), api.ErrBig)
			is(t, "too many bytes", s, paper{})
			told(t, "Put", s.Put(n, body), api.OK)
			is(t, "Put", s, paper{files: []sheet{{n, body}}})
			told(t, "there already", s.Put(n, "other"), api.ErrArg)
			told(t, "there already, and the same", s.Put(n, body), api.ErrArg)
			told(t, "there already, and too many bytes", s.Put(n, xs(api.MaxFile+1)), api.ErrArg)
			is(t, "there already", s, paper{files: []sheet{{n, body}}})
		}
	}
}

func TestPutMany(t *testing.T) {
	s := New()
	var want []sheet
	for i := range api.MaxFiles {
		n := 3*i + 1
		told(t, "Put", s.Put(n, xs(i)), api.OK)
		want = append(want, sheet{n, xs(i)})
	}
	is(t, "all of them", s, paper{files: want})
	told(t, "one more", s.Put(2, ""), api.ErrBig)
	told(t, "one more with too many bytes", s.Put(2, xs(api.MaxFile+1)), api.ErrBig)
	told(t, "one more of a number that may not be", s.Put(0, ""), api.ErrArg)
	told(t, "one more of a number that is there", s.Put(1, ""), api.ErrArg)
	is(t, "one more", s, paper{files: want})
	if !s.Drop(1) {
		t.Error("Drop: not there")
	}
	told(t, "one for one that went", s.Put(2, "two"), api.OK)
	want[0] = sheet{2, "two"}
	is(t, "one for one that went", s, paper{files: want})
	told(t, "the one that went", s.Put(1, ""), api.ErrBig)
	is(t, "the one that went", s, paper{files: want})
}

func TestGetAndDrop(t *testing.T) {
	for _, n := range []int{math.MinInt, -7, -1, 0, 1, 3, 6, 8, api.MaxStamp - 1, api.MaxStamp + 1, math.MaxInt} {
		for _, s := range []*Shelf{New(), func() *Shelf { s, _ := full(); return s }()} {
			was := seen(t, s)
			body, e := s.Get(n)
			told(t, "Get of none", e, api.ErrNone)
			if body != "" || s.Drop(n) {
				t.Errorf("%d is there", n)
			}
			is(t, "asked for none", s, was)
		}
	}
	s, p := full()
	for len(p.files) > 0 {
		n := p.files[0].n
		if !s.Drop(n) {
			t.Errorf("Drop(%d): not there", n)
		}
		p.files = p.files[1:]
		is(t, "dropped", s, p)
		body, e := s.Get(n)
		told(t, "Get of what went", e, api.ErrNone)
		if body != "" || s.Drop(n) {
			t.Errorf("%d is there still", n)
		}
	}
	told(t, "put again", s.Put(7, "other"), api.OK)
	p.files = []sheet{{7, "other"}}
	is(t, "put again", s, p)
}

func TestNums(t *testing.T) {
	if nums := New().Nums(); len(nums) != 0 {
		t.Errorf("numbers of none: %d", nums)
	}
	for _, order := range [][]int{{1, 2, 3}, {3, 2, 1}, {api.MaxStamp, 1}, {9, 10, 100, 2, 20}, {1 << 32, 1<<32 + 1, 1, 1 << 31, 2}} {
		s := New()
		for _, n := range order {
			s.Put(n, "")
		}
		slices.Sort(order)
		if nums := s.Nums(); !slices.Equal(nums, order) {
			t.Errorf("numbers %d, not %d", nums, order)
		}
	}
	r := rand.New(rand.NewSource(2))
	for range 200 {
		s := New()
		var want []int
		for range api.MaxFiles {
			if n := 1 + r.Intn(1<<(7+r.Intn(33))); s.Put(n, "") == api.OK {
				want = append(want, n)
			}
		}
		slices.Sort(want)
		if nums := s.Nums(); !slices.Equal(nums, want) {
			t.Fatalf("numbers %d, not %d", nums, want)
		}
	}
}

func TestNumsNewMemory(t *testing.T) {
	s, p := full()
	nums, again := s.Nums(), s.Nums()
	for i := range nums[:cap(nums)] {
		nums[:cap(nums)][i] = 99
	}
	if !slices.Equal(again, []int{2, 7, api.MaxStamp}) {
		t.Errorf("two lists of numbers share memory: %d", again)
	}
	is(t, "a list of numbers that was written over", s, p)
}

func TestTurn(t *testing.T) {
	for _, man := range []string{"", "man", "\x00\xff\xfe", xs(api.MaxFile - 1), xs(api.MaxFile)} {
		s, p := full()
		told(t, "Turn", s.Turn(man), api.OK)
		p.synced, p.loose, p.man = "", "", man
		is(t, "turned with a log that is not synced", s, p)
		s.Crash(99)
		is(t, "turned, and crashed", s, p)
		told(t, "Append", s.Append("behind"), api.OK)
		p.loose = "behind"
		is(t, "gone on with", s, p)
		for _, big := range []int{api.MaxFile + 1, api.MaxFile + 2, 2 * api.MaxFile} {
			told(t, "too many bytes", s.Turn(xs(big)), api.ErrBig)
			is(t, "too many bytes", s, p)
		}
		told(t, "turned again", s.Turn("next"), api.OK)
		p.loose, p.man = "", "next"
		is(t, "turned again", s, p)
	}
}

// P5.3

func TestCrash(t *testing.T) {
	for keep, want := range []string{"abc", "abcd", "abcde", "abcde", "abcde"} {
		s, p := full()
		s.Crash(keep)
		p.synced, p.loose = want, ""
		is(t, "crashed", s, p)
		s.Crash(0)
		is(t, "crashed twice", s, p)
		s.Append("fg")
		s.Crash(1)
		p.synced += "f"
		is(t, "gone on with, and crashed", s, p)
	}
	for _, keep := range ends() {
		s, p := full()
		s.Crash(keep)
		p.loose = ""
		if keep > 0 {
			p.synced = "abcde"
		}
		is(t, "crashed far off", s, p)
		s, p = full()
		s.Sync()
		s.Crash(keep)
		p.synced, p.loose = "abcde", ""
		is(t, "crashed behind Sync", s, p)
		empty := New()
		empty.Crash(keep)
		is(t, "nothing to crash", empty, paper{})
	}
}

func TestCrashOfAFullLog(t *testing.T) {
	for _, synced := range []int{0, 1, api.MaxFile - 1, api.MaxFile} {
		for _, keep := range []int{0, 1, api.MaxFile - synced - 1, api.MaxFile - synced, api.MaxFile, math.MaxInt} {
			s := New()
			s.Append(xs(synced))
			s.Sync()
			s.Append(strings.Repeat("y", api.MaxFile-synced))
			s.Crash(keep)
			is(t, "crashed", s, paper{synced: xs(synced) + strings.Repeat("y", max(0, min(keep, api.MaxFile-synced)))})
		}
	}
}

func TestWipe(t *testing.T) {
	s, _ := full()
	s.Turn("man")
	s.Append("abc")
	s.Sync()
	s.Append("de")
	s.Wipe()
	fresh := New()
	is(t, "wiped", s, paper{})
	s.Wipe()
	is(t, "wiped twice", s, paper{})
	// whatever comes to both, it stays as the new one is
	for _, x := range []*Shelf{s, fresh} {
		told(t, "Put", x.Put(7, "new"), api.OK)
		told(t, "Append", x.Append("new log"), api.OK)
		x.Crash(3)
		is(t, "gone on with", x, paper{synced: "new", files: []sheet{{7, "new"}}})
		told(t, "Turn", x.Turn("new man"), api.OK)
		is(t, "gone on with", x, paper{man: "new man", files: []sheet{{7, "new"}}})
	}
	s.Wipe()
	is(t, "the new one, beside one that is wiped", fresh, paper{man: "new man", files: []sheet{{7, "new"}}})
	is(t, "one that is made behind it", New(), paper{})
}

// turns are what may be done to a shelf that full has made, and what it comes to.
var turns = []struct {
	what string
	do   func(s *Shelf)
	want func(p *paper)
}{
	{"Append", func(s *Shelf) { s.Append("XY") }, func(p *paper) { p.loose += "XY" }},
	{"Sync", func(s *Shelf) { s.Sync() }, func(p *paper) { p.synced, p.loose = "abcde", "" }},
	{"Cut and Append", func(s *Shelf) { s.Cut(1); s.Append("XYZV") }, func(p *paper) { p.synced, p.loose = "a", "XYZV" }},
	{"Crash and Append", func(s *Shelf) { s.Crash(0); s.Append("XY") }, func(p *paper) { p.loose = "XY" }},
	{"Put", func(s *Shelf) { s.Put(1, "one") }, func(p *paper) { p.files = append([]sheet{{1, "one"}}, p.files...) }},
	{"Drop", func(s *Shelf) { s.Drop(2) }, func(p *paper) { p.files = p.files[1:] }},
	{"Drop and Put", func(s *Shelf) { s.Drop(2); s.Put(2, "other") }, func(p *paper) { p.files = append([]sheet{{2, "other"}}, p.files[1:]...) }},
	{"Turn", func(s *Shelf) { s.Turn("man") }, func(p *paper) { p.synced, p.loose, p.man = "", "", "man" }},
	{"Turn and Append", func(s *Shelf) { s.Turn("man"); s.Append("XYZVW") }, func(p *paper) { p.synced, p.loose, p.man = "", "XYZVW", "man" }},
	{"Wipe", func(s *Shelf) { s.Wipe() }, func(p *paper) { *p = paper{} }},
	{"Wipe and Put", func(s *Shelf) { s.Wipe(); s.Put(7, "new") }, func(p *paper) { *p = paper{files: []sheet{{7, "new"}}} }},
}

func TestCopy(t *testing.T) {
	is(t, "the copy of a new one", New().Copy(), paper{})
	for _, x := range turns {
		s, p := full()
		c := s.Copy()
		is(t, "a copy", c, p)
		turned := p
		x.want(&turned)
		x.do(s)
		is(t, x.what+" of what was copied", s, turned)
		is(t, x.what+" of what was copied: the copy", c, p)
		s, p = full()
		c = s.Copy()
		x.do(c)
		is(t, x.what+" of the copy", c, turned)
		is(t, x.what+" of the copy: what was copied", s, p)
		// where both go on, each has its own
		for _, y := range turns {
			s, p = full()
			c = s.Copy()
			other := p
			x.do(s)
			y.do(c)
			x.want(&p)
			y.want(&other)
			is(t, x.what+" of one", s, p)
			is(t, y.what+" of the other", c, other)
		}
	}
}

func TestCopyCrashesAlike(t *testing.T) {
	for keep := range 4 {
		s, p := full()
		c := s.Copy().Copy()
		c.Crash(keep)
		crashed := p
		crashed.synced, crashed.loose = "abcde"[:3+min(keep, 2)], ""
		is(t, "the copy, crashed", c, crashed)
		is(t, "what was copied", s, p)
	}
}

// P5.4

func TestSyncedStays(t *testing.T) {
	for _, keep := range []int{math.MinInt, -1, 0, 1, 2, math.MaxInt} {
		for _, x := range turns {
			s, p := full()
			x.do(s)
			x.want(&p)
			s.Crash(keep)
			p.synced, p.loose = p.synced+p.loose[:max(0, min(keep, len(p.loose)))], ""
			is(t, "crashed behind "+x.what, s, p)
			for _, y := range []int{0, -1, 5} {
				s.Crash(y)
				is(t, "crashed again behind "+x.what, s, p)
			}
		}
	}
}

// dice throw what is done to shelves.
type dice struct {
	*rand.Rand
}

// body is a text, now and then as long as one may be, or longer.
func (d dice) body() string {
	letter := string(rune('a' + d.Intn(26)))
	switch d.Intn(40) {
	case 0:
		return strings.Repeat(letter, api.MaxFile+d.Intn(3)-1)
	case 1:
		return strings.Repeat(letter, api.MaxFile/2)
	}
	return strings.Repeat(letter, d.Intn(12))
}

// number is a file's, most of them next to each other.
func (d dice) number() int {
	switch d.Intn(12) {
	case 0:
		return d.Intn(4) - 2
	case 1:
		return api.MaxStamp + d.Intn(3) - 1
	}
	return 1 + d.Intn(60)
}

// bytes is how many are left.
func (d dice) bytes() int {
	switch d.Intn(6) {
	case 0:
		return ends()[d.Intn(len(ends()))]
	case 1:
		return d.Intn(api.MaxFile + 2)
	}
	return d.Intn(40) - 4
}

// find is where a file is, or would be, and whether it is.
func (p *paper) find(n int) (int, bool) {
	return slices.BinarySearchFunc(p.files, n, func(f sheet, n int) int { return f.n - n })
}

// put is what Put is on paper.
func (p *paper) put(n int, body string) api.Errno {
	at, there := p.find(n)
	switch {
	case n <= 0, n > 1<<40, there:
		return api.ErrArg
	case len(body) > 262144, len(p.files) == 40:
		return api.ErrBig
	}
	p.files = slices.Insert(slices.Clone(p.files), at, sheet{n, body})
	return api.OK
}

// drop is what Drop is on paper.
func (p *paper) drop(n int) bool {
	at, there := p.find(n)
	if there {
		p.files = slices.Delete(slices.Clone(p.files), at, at+1)
	}
	return there
}

// step does one thing to a shelf, and to the paper of it.
func (d dice) step(t *testing.T, s *Shelf, p *paper) {
	t.Helper()
	body, n, many := d.body(), d.number(), d.bytes()
	switch kind := d.Intn(1000); {
	case kind < 250:
		want := api.ErrBig
		if len(p.synced)+len(p.loose)+len(body) <= 262144 {
			want = api.OK
			p.loose += body
		}
		told(t, "Append", s.Append(body), want)
	case kind < 350:
		s.Sync()
		p.synced, p.loose = p.synced+p.loose, ""
	case kind < 700:
		told(t, "Put", s.Put(n, body), p.put(n, body))
	case kind < 820:
		if got, want := s.Drop(n), p.drop(n); got != want {
			t.Fatalf("Drop(%d): %v", n, got)
		}
	case kind < 880:
		whole := p.synced + p.loose
		s.Cut(many)
		p.synced, p.loose = whole[:max(0, min(many, len(whole)))], ""
	case kind < 920:
		want := api.ErrBig
		if len(body) <= 262144 {
			want = api.OK
			p.synced, p.loose, p.man = "", "", body
		}
		told(t, "Turn", s.Turn(body), want)
	case kind < 998:
		s.Crash(many)
		p.synced, p.loose = p.synced+p.loose[:max(0, min(many, len(p.loose)))], ""
	default:
		s.Wipe()
		*p = paper{}
	}
}

func TestAnySteps(t *testing.T) {
	d := dice{rand.New(rand.NewSource(5))}
	shelves := []*Shelf{New(), New(), New()}
	papers := make([]paper, len(shelves))
	for range 20000 {
		i, other := d.Intn(len(shelves)), d.Intn(len(shelves))
		if d.Intn(50) == 0 {
			shelves[i], papers[i] = shelves[other].Copy(), papers[other]
		} else {
			d.step(t, shelves[i], &papers[i])
		}
		is(t, "the one that was turned", shelves[i], papers[i])
		is(t, "one of all", shelves[other], papers[other])
	}
}

// TestCrashesBetween holds what is there behind a crash against what a shelf told ahead of it alone.
func TestCrashesBetween(t *testing.T) {
	d := dice{rand.New(rand.NewSource(6))}
	s := New()
	var p paper
	for range 20000 {
		d.step(t, s, &p)
		if d.Intn(3) > 0 {
			continue
		}
		was, keep := seen(t, s), d.bytes()
		c := s.Copy()
		c.Crash(keep)
		is(t, "what a copy of it crashed", s, was)
		now := seen(t, c)
		if !strings.HasPrefix(now.synced, was.synced) || !strings.HasPrefix(was.synced+was.loose, now.synced) || now.loose != "" {
			t.Fatalf("Crash(%d) of %s: %s", keep, brief(was), brief(now))
		}
		if left := len(now.synced) - len(was.synced); left != max(0, min(keep, len(was.loose))) {
			t.Fatalf("Crash(%d) of %s: %d bytes more than were synced", keep, brief(was), left)
		}
		if now.man != was.man || !slices.Equal(now.files, was.files) {
			t.Fatalf("Crash(%d) of %s: the man or the files are others: %s", keep, brief(was), brief(now))
		}
	}
}
