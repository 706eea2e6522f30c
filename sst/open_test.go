package sst

import (
	"math"
	"math/rand"
	"slices"
	"strconv"
	"strings"
	"testing"
	"unsafe"

	"clerestory/api"
	"clerestory/order"
	"clerestory/pack"
	"clerestory/part"
)

// front is what is still to be read of an index. It panics where there is no more of it.
type front string

func (f *front) take(n int) string {
	s := string(*f)
	*f = front(s[n:])
	return s[:n]
}

func (f *front) number() int {
	v, next, e := order.GetNum([]byte(*f), 0)
	if e != api.OK || v > math.MaxInt {
		panic("no number")
	}
	f.take(next)
	return int(v)
}

// maker is what Put made bytes of, if it did: they are read as if they were right, and put again.
func maker(s string) (table string, parts []api.Part, ok bool) {
	defer func() {
		if recover() != nil {
			table, parts, ok = "", nil, false
		}
	}()
	end := len(s) - 8
	begin := 0
	for _, b := range []byte(s[end : end+4]) {
		begin = begin*256 + int(b)
	}
	index := front(s[begin:end])
	table = index.take(index.number())
	at := 0
	for range index.number() {
		index.take(index.number())
		size := index.number()
		p, _ := pack.GetPart([]byte(s[at : at+size]))
		parts = append(parts, p)
		at += size
	}
	if put, e := Put(table, parts); e != api.OK || put != s {
		return "", nil, false
	}
	return table, parts, true
}

// told is what bytes are, and their error, by maker.
func told(s string) (string, []api.Part, api.Errno) {
	switch {
	case len(s) < 8:
		return "", nil, api.ErrShort
	case s != sealed(s[:len(s)-4]):
		return "", nil, api.ErrSum
	}
	if table, parts, ok := maker(s); ok {
		return table, parts, api.OK
	}
	return "", nil, api.ErrBytes
}

// keysOf are partitions' keys.
func keysOf(parts []api.Part) []string {
	var keys []string
	for _, p := range parts {
		keys = append(keys, p.Key)
	}
	return keys
}

// found is the partition of a key, by looking at each, and the error.
func found(parts []api.Part, key string) (api.Part, api.Errno) {
	for _, p := range parts {
		if p.Key == key {
			return p, api.OK
		}
	}
	return api.Part{}, api.ErrNone
}

// near are keys, and such as are next to them.
func near(keys []string) []string {
	list := []string{"", "\x00", "a", "\xff", xs(100), xs(101)}
	for _, key := range keys {
		list = append(list, key, key+"\x00", key+"\xff")
		if key != "" {
			short, last := key[:len(key)-1], key[len(key)-1]
			list = append(list, short, short+string([]byte{last - 1}), short+string([]byte{last + 1}), short+string([]byte{last ^ 128}))
		}
	}
	return list
}

// hold holds what all calls answer against what bytes are; it answers the error.
func hold(t *testing.T, s string) api.Errno {
	t.Helper()
	table, parts, want := told(s)
	if got, e := Table(s); got != table || e != want {
		t.Fatalf("Table(%x): %q, %d, not %q, %d", s, got, e, table, want)
	}
	if got, e := Keys(s); !slices.Equal(got, keysOf(parts)) || e != want {
		t.Fatalf("Keys(%x): %q, %d, not %q, %d", s, got, e, keysOf(parts), want)
	}
	if got, e := All(s); !same(got, parts) || e != want {
		t.Fatalf("All(%x): %+v, %d, not %+v, %d", s, got, e, parts, want)
	}
	for _, key := range near(keysOf(parts)) {
		p, e := found(parts, key)
		if want != api.OK {
			p, e = api.Part{}, want
		}
		if got, gotE := Find(s, key); !part.Same(got, p) || gotE != e {
			t.Fatalf("Find(%x, %q): %+v, %d, not %+v, %d", s, key, got, gotE, p, e)
		}
	}
	return want
}

// named is a file's bytes, and the error that they are.
type named struct {
	what string
	s    string
	want api.Errno
}

// holdAll holds the errors of all calls against those named.
func holdAll(t *testing.T, list []named) {
	t.Helper()
	for _, x := range list {
		if _, e := Table(x.s); e != x.want {
			t.Errorf("%s: Table: %d, not %d", x.what, e, x.want)
		}
		if _, e := Keys(x.s); e != x.want {
			t.Errorf("%s: Keys: %d, not %d", x.what, e, x.want)
		}
		if _, e := All(x.s); e != x.want {
			t.Errorf("%s: All: %d, not %d", x.what, e, x.want)
		}
		if _, e := Find(x.s, "no key"); e != x.want && (x.want != api.OK || e != api.ErrNone) {
			t.Errorf("%s: Find: %d, not %d", x.what, e, x.want)
		}
		hold(t, x.s)
	}
}

// P10.2

func TestOfWhatWasPut(t *testing.T) {
	for _, x := range written() {
		s := sealed(x.want)
		if table, e := Table(s); table != x.table || e != api.OK {
			t.Errorf("%s: Table: %q, %d", x.what, table, e)
		}
		if keys, e := Keys(s); !slices.Equal(keys, keysOf(x.parts)) || e != api.OK {
			t.Errorf("%s: Keys: %q, %d", x.what, keys, e)
		}
		if all, e := All(s); !same(all, x.parts) || e != api.OK {
			t.Errorf("%s: All: %+v, %d", x.what, all, e)
		}
		for _, p := range x.parts {
			if got, e := Find(s, p.Key); !part.Same(got, p) || e != api.OK {
				t.Errorf("%s: Find(%q): %+v, %d", x.what, p.Key, got, e)
			}
		}
		if got, e := Find(s, "no key"); !part.Same(got, api.Part{}) || e != api.ErrNone {
			t.Errorf("%s: Find of a key that is not there: %+v, %d", x.what, got, e)
		}
	}
}

func TestFind(t *testing.T) {
	parts := three()
	parts[0].Key, parts[1].Key, parts[2].Key = "b", "d", "f"
	s, _ := Put("t", parts)
	for _, x := range []struct {
		what, key string
		at        int // -1: none
	}{
		{"the first", "b", 0},
		{"the middle one", "d", 1},
		{"the last", "f", 2},
		{"ahead of all", "a", -1},
		{"between two", "c", -1},
		{"between the last two", "e", -1},
		{"behind all", "g", -1},
		{"empty", "", -1},
		{"what the middle one goes on with", "d\x00", -1},
		{"one with a byte more", "bb", -1},
		{"a great letter", "D", -1},
		{"a byte above 127", "\xe2", -1},
		{"the table", "t", -1},
	} {
		want, wantE := api.Part{}, api.ErrNone
		if x.at >= 0 {
			want, wantE = parts[x.at], api.OK
		}
		if got, e := Find(s, x.key); !part.Same(got, want) || e != wantE {
			t.Errorf("%s: %+v, %d", x.what, got, e)
		}
	}
	parts[0].Key = ""
	s, _ = Put("t", parts)
	if got, e := Find(s, ""); !part.Same(got, parts[0]) || e != api.OK {
		t.Errorf("empty, and there: %+v, %d", got, e)
	}
	none, _ := Put("t", nil)
	for _, key := range []string{"", "a", "t", xs(1000)} {
		if got, e := Find(none, key); !part.Same(got, api.Part{}) || e != api.ErrNone {
			t.Errorf("of no partitions, %q: %+v, %d", key, got, e)
		}
	}
}

func TestFindOfHowMany(t *testing.T) {
	for _, n := range []int{0, 1, 2, 3, 4, 5, 6, 7, 8, 9, 31, 32, 33, 99, 100} {
		parts := numbered(n)
		s, _ := Put("t", parts)
		for i, p := range parts {
			if got, e := Find(s, p.Key); !part.Same(got, p) || e != api.OK {
				t.Errorf("%d of %d: %+v, %d", i, n, got, e)
			}
		}
		if e := hold(t, s); e != api.OK {
			t.Errorf("%d: %d", n, e)
		}
	}
}

func TestOfFewBytes(t *testing.T) {
	s, _ := Put("t", nil)
	var list []named
	for n := range 8 {
		list = append(list,
			named{"the first ones, " + strconv.Itoa(n), s[:n], api.ErrShort},
			named{"the last ones, " + strconv.Itoa(n), s[len(s)-n:], api.ErrShort},
			named{"noughts, " + strconv.Itoa(n), strings.Repeat("\x00", n), api.ErrShort},
			named{"others, " + strconv.Itoa(n), strings.Repeat("\xff", n), api.ErrShort},
		)
		if n >= 4 {
			list = append(list, named{"with their sum, " + strconv.Itoa(n), sealed(xs(n - 4)), api.ErrShort})
		}
	}
	holdAll(t, append(list,
		named{"eight bytes", s[:8], api.ErrSum},
		named{"eight noughts", strings.Repeat("\x00", 8), api.ErrSum},
		named{"eight others", strings.Repeat("\xff", 8), api.ErrSum},
		named{"eight with their sum", sealed("\x00\x00\x00\x00"), api.ErrBytes},
		named{"eight with their sum, of an index that begins behind them", sealed("\x00\x00\x00\x04"), api.ErrBytes},
		named{"nine with their sum", sealed("\x00\x00\x00\x00\x00"), api.ErrBytes},
		named{"the fewest", s, api.OK},
	))
}

func TestOfOtherSums(t *testing.T) {
	for _, x := range written() {
		s := sealed(x.want)
		list := []named{
			{"cut by one", s[:len(s)-1], api.ErrSum},
			{"cut by the sum", x.want, api.ErrSum},
			{"without the first", s[1:], api.ErrSum},
			{"one more behind", s + "\x00", api.ErrSum},
			{"one more ahead", "\x00" + s, api.ErrSum},
			{"the sum twice", s + s[len(x.want):], api.ErrSum},
			{"itself twice", s + s, api.ErrSum},
		}
		for _, sum := range []string{"\x00\x00\x00\x00", "\x7f\xff\xff\xff", "\x7f\xff\xff\xfe", "\x80\x00\x00\x00", "\xff\xff\xff\xff"} {
			list = append(list, named{"another sum", x.want + sum, api.ErrSum})
		}
		// what stands for the same place, a turn further round the ring
		n := 0
		for _, b := range []byte(s[len(x.want):]) {
			n = n*256 + int(b)
		}
		list = append(list, named{"a sum a turn further", x.want + place(n+1<<31-1), api.ErrSum})
		for i := range list {
			list[i].what = x.what + ": " + list[i].what
			if strings.Contains(list[i].what, "cut by the sum") && len(list[i].s) < 8 {
				list[i].want = api.ErrShort
			}
		}
		holdAll(t, list)
	}
}

// spoiled are files whose sum is right, and whose error is ErrBytes: each has one thing spoiled.
func spoiled(table string, parts []api.Part) map[string]laid {
	const above = "\x08\xff\xff\xff\xff\xff\xff\xff\xff"
	list := make(map[string]laid)
	spoil := func(what string, turn func(x *laid)) {
		x := laidOf(table, parts)
		turn(&x)
		list[what] = x
	}
	whole := laidOf(table, parts)
	n, size := len(parts), len(whole.body())
	for at := range size + 9 {
		if at != whole.begin {
			spoil("an index that begins at "+strconv.Itoa(at), func(x *laid) { x.begin = at })
		}
	}
	for _, at := range []int{1 << 16, api.MaxFile, 1<<31 - 2, 1<<31 - 1, 1 << 31, 1<<32 - 1} {
		spoil("an index that begins far behind, at "+strconv.Itoa(at), func(x *laid) { x.begin = at })
	}
	for _, name := range notNames() {
		spoil("the table "+strconv.Quote(name), func(x *laid) { x.table = num(len(name)) + name })
	}
	for what, s := range map[string]string{
		"a wrong first byte": "\x09", "the last first byte": "\xff", "longer than it need be": "\x02\x00\x01", "0 as two bytes": "\x01\x00", "the greatest": above, "2^63": "\x08\x80\x00\x00\x00\x00\x00\x00\x00", "2^63 - 1": "\x08\x7f\xff\xff\xff\xff\xff\xff\xff", "above MaxFile": "\x03\x04\x00\x01", "more than is left": "\x02\xff\xff", "nothing": "",
	} {
		spoil("the table's length: "+what, func(x *laid) { x.table = s + table })
		spoil("how many: "+what, func(x *laid) { x.count = s })
		for i := range n {
			spoil("the key's length "+strconv.Itoa(i)+": "+what, func(x *laid) { x.keys[i] = s + parts[i].Key })
			spoil("how many bytes "+strconv.Itoa(i)+": "+what, func(x *laid) { x.sizes[i] = s })
		}
	}
	for _, count := range []int{0, 1, n - 1, n + 1, n + 2, 100, 101, 255, 256, 1 << 18, 1 << 40} {
		if count >= 0 && count != n {
			spoil("of so many: "+strconv.Itoa(count), func(x *laid) { x.count = num(count) })
		}
	}
	for _, more := range []string{"\x00", "\x01", "\xff", "\x00\x00", xs(9)} {
		spoil("more behind the index", func(x *laid) { x.behind = more })
		spoil("more behind the partitions", func(x *laid) { x.gap = more })
		spoil("more behind the partitions, and the index from there on", func(x *laid) { x.gap = more; x.begin += len(more) })
		spoil("more ahead of all", func(x *laid) { x.packed = append([]string{more}, x.packed...) })
		spoil("more ahead of all, and the index from there on", func(x *laid) { x.packed = append([]string{more}, x.packed...); x.begin += len(more) })
	}
	spoil("a partition that the index has not", func(x *laid) { x.packed = append(x.packed, "\x01\x01z\x00\x00"); x.begin += 5 })
	spoil("an entry that has no partition", func(x *laid) {
		x.count = num(n + 1)
		x.keys = append(x.keys, "\x01\x01z")
		x.sizes = append(x.sizes, "\x00")
	})
	spoil("an entry of what is the index", func(x *laid) {
		x.count = num(n + 1)
		x.keys = append(x.keys, "\x01\x01z")
		x.sizes = append(x.sizes, "\x01\x05")
	})
	for i := range n {
		spoiledEntry(i, parts, spoil)
	}
	return list
}

// spoiledEntry spoils what is the partition i.
func spoiledEntry(i int, parts []api.Part, spoil func(what string, turn func(x *laid))) {
	of := func(what string, turn func(x *laid)) { spoil(what+" "+strconv.Itoa(i), turn) }
	key, packed := parts[i].Key, laidOf("t", parts[i:i+1]).packed[0]
	for _, other := range []string{key + "\x00", key + "z", "\x00" + key, "zz", xs(100), xs(101)} {
		of("the key "+strconv.Quote(other)+" for", func(x *laid) { x.keys[i] = num(len(other)) + other })
	}
	if key != "" {
		of("the key without its first byte for", func(x *laid) { x.keys[i] = num(len(key)-1) + key[1:] })
		of("no key for", func(x *laid) { x.keys[i] = "\x00" })
	}
	for _, by := range []int{-len(packed), -2, -1, 1, 2, 9, 300, 1 << 18, 1 << 40} {
		of("by so many bytes another length, "+strconv.Itoa(by)+", of", func(x *laid) { x.sizes[i] = num(len(packed) + by) })
	}
	of("no entry for", func(x *laid) {
		x.count = num(len(parts) - 1)
		x.keys, x.sizes = slices.Delete(x.keys, i, i+1), slices.Delete(x.sizes, i, i+1)
	})
	of("no partition", func(x *laid) { x.packed[i] = ""; x.begin -= len(packed) })
	of("no bytes, as the index says, for", func(x *laid) { x.packed[i], x.sizes[i] = "", "\x00"; x.begin -= len(packed) })
	of("two entries for", func(x *laid) {
		x.count = num(len(parts) + 1)
		x.keys, x.sizes = slices.Insert(x.keys, i, x.keys[i]), slices.Insert(x.sizes, i, x.sizes[i])
	})
	twice := func(x *laid) {
		x.count = num(len(parts) + 1)
		x.keys, x.sizes = slices.Insert(x.keys, i, x.keys[i]), slices.Insert(x.sizes, i, x.sizes[i])
		x.packed = slices.Insert(x.packed, i, packed)
		x.begin += len(packed)
	}
	of("twice", twice)
	if i > 0 {
		of("keys that fall at", func(x *laid) {
			x.packed[i-1], x.packed[i] = x.packed[i], x.packed[i-1]
			x.keys[i-1], x.keys[i] = x.keys[i], x.keys[i-1]
			x.sizes[i-1], x.sizes[i] = x.sizes[i], x.sizes[i-1]
		})
		of("entries that fall at", func(x *laid) {
			x.keys[i-1], x.keys[i] = x.keys[i], x.keys[i-1]
			x.sizes[i-1], x.sizes[i] = x.sizes[i], x.sizes[i-1]
		})
		of("partitions that fall at", func(x *laid) { x.packed[i-1], x.packed[i] = x.packed[i], x.packed[i-1] })
		of("the keys of two, at", func(x *laid) { x.keys[i-1], x.keys[i] = x.keys[i], x.keys[i-1] })
		of("a byte that goes from one to the next, at", func(x *laid) {
			ahead := len(laidOf("t", parts[i-1:i]).packed[0])
			x.sizes[i-1], x.sizes[i] = num(ahead-1), num(len(packed)+1)
		})
		of("all bytes in the entry ahead of", func(x *laid) {
			ahead := len(laidOf("t", parts[i-1:i]).packed[0])
			x.sizes[i-1], x.sizes[i] = num(ahead+len(packed)), "\x00"
		})
	}
	spoiledPart(i, key, packed, of)
}

// spoiledPart spoils the bytes of the partition i, and lets the index say how many they are.
func spoiledPart(i int, key, packed string, of func(what string, turn func(x *laid))) {
	head := num(len(key)) + key
	for what, b := range map[string]string{
		"cut":                      packed[:len(packed)-1],
		"a byte more":              packed + "\x00",
		"rows that fall":           head + "\x00\x01\x02" + "\x01\x01b\x00\x00\x00\x00" + "\x01\x01a\x00\x00\x00\x00",
		"too many rows":            head + "\x00\x01\x65" + strings.Repeat("\x00\x00\x00\x00\x00", 101),
		"Gone above MaxStamp":      head + "\x06\x01\x00\x00\x00\x00\x01\x00",
		"Gone longer than need be": head + "\x01\x00\x00",
		"Live neither":             head + "\x00\x01\x01" + "\x00\x01\x05\x02\x00\x00\x00",
		"Live dead":                head + "\x00\x01\x01" + "\x00\x01\x05\x01\x00\x00\x00",
		"a count of too many":      head + "\x00\x01\x7f",
		"another key":              num(len(key)+1) + key + "z" + "\x00\x00",
		"another great key":        num(101) + xs(101) + "\x00\x00",
		"two of them":              packed + packed,
	} {
		of("wrong bytes, "+what+", of", func(x *laid) {
			x.packed[i], x.sizes[i] = b, num(len(b))
			x.begin += len(b) - len(packed)
		})
	}
	of("a key too great for", func(x *laid) {
		b := num(101) + xs(101) + "\x00\x00"
		x.packed[i], x.keys[i], x.sizes[i] = b, num(101)+xs(101), num(len(b))
		x.begin += len(b) - len(packed)
	})
}

func TestOfSpoiled(t *testing.T) {
	for _, x := range written() {
		for what, s := range spoiled(x.table, x.parts) {
			holdAll(t, []named{{x.what + ": " + what, sealed(s.body()), api.ErrBytes}})
		}
	}
}

func TestOfTooManyPartitions(t *testing.T) {
	for n, want := range map[int]api.Errno{99: api.OK, api.MaxParts: api.OK, 101: api.ErrBytes, 102: api.ErrBytes, 255: api.ErrBytes, 300: api.ErrBytes} {
		holdAll(t, []named{{strconv.Itoa(n), sealed(laidOf("t", numbered(n)).body()), want}})
	}
	// as many entries as there is room for: they end soon
	x := laidOf("t", nil)
	for n := range 60000 {
		x.keys, x.sizes, x.count = append(x.keys, "\x00"), append(x.sizes, "\x00"), num(n+1)
	}
	x.keys = []string{strings.Join(x.keys, "") + strings.Join(x.sizes, "")}
	x.sizes = []string{""}
	holdAll(t, []named{{"many entries of nothing", sealed(x.body()), api.ErrBytes}})
}

func TestOfWhichErrorFirst(t *testing.T) {
	bad := laidOf("T", three())
	bad.begin++
	holdAll(t, []named{
		{"too short, the sum another one", "\x00\x00\x00\x00\x00\x00\x01", api.ErrShort},
		{"too short, an index that begins behind it", "\x09\x09\x09" + "\xff\xff\xff\xff", api.ErrShort},
		{"too short, the sum right", sealed("abc"), api.ErrShort},
		{"the sum another one, an index that begins behind it", "\xff\xff\xff\xff" + "\x00\x00\x00\x00", api.ErrSum},
		{"the sum another one, all else wrong too", bad.body() + "\x00\x00\x00\x00", api.ErrSum},
		{"all else wrong, the sum right", sealed(bad.body()), api.ErrBytes},
		{"the sum another one, more than MaxFile bytes", xs(api.MaxFile + 1), api.ErrSum},
		{"the sum right, more than MaxFile bytes", sealed(xs(api.MaxFile)), api.ErrBytes},
		{"the sum right, MaxFile bytes", sealed(xs(api.MaxFile - 4)), api.ErrBytes},
		{"the sum another one, MaxFile bytes", xs(api.MaxFile), api.ErrSum},
	})
}

// within tells whether a text's bytes lie in those of another one.
func within(s, outer string) bool {
	if s == "" {
		return false
	}
	at, from := uintptr(unsafe.Pointer(unsafe.StringData(s))), uintptr(unsafe.Pointer(unsafe.StringData(outer)))
	return at >= from && at < from+uintptr(len(outer))
}

// texts are all of a partition's.
func texts(p api.Part) []string {
	list := []string{p.Key}
	for _, r := range p.Rows {
		list = append(list, r.Key)
		for _, c := range r.Cols {
			list = append(list, c.Name, c.Cell.Val)
		}
	}
	return list
}

func TestAnswersAreNewMemory(t *testing.T) {
	r := rand.New(rand.NewSource(102))
	for range 300 {
		table, parts := someTable(r), someParts(r, 9)
		s, _ := Put(table, parts)
		name, _ := Table(s)
		keys, _ := Keys(s)
		list := append([]string{name}, keys...)
		all, _ := All(s)
		for _, p := range all {
			list = append(list, texts(p)...)
			one, _ := Find(s, p.Key)
			list = append(list, texts(one)...)
		}
		for _, text := range list {
			if within(text, s) {
				t.Fatalf("%q lies in what was handed in", text)
			}
		}
		for _, text := range append([]string{table}, keysOf(parts)...) {
			if within(s, text) || within(text, s) {
				t.Fatalf("what is put lies in %q", text)
			}
		}
	}
}

// overwritten writes over all lists of a partition, spare room too.
func overwritten(p api.Part) {
	rows := p.Rows[:cap(p.Rows)]
	for i := range rows {
		clear(rows[i].Cols[:cap(rows[i].Cols)])
		rows[i] = api.Row{Key: "other", Gone: 99}
	}
}

func TestAnswersShareNothing(t *testing.T) {
	r := rand.New(rand.NewSource(103))
	for range 500 {
		parts := someParts(r, 9)
		s, _ := Put("t", parts)
		keys, _ := Keys(s)
		all, _ := All(s)
		for _, p := range parts {
			one, _ := Find(s, p.Key)
			overwritten(one)
		}
		clear(keys[:cap(keys)])
		for i := range all {
			// one partition written over: the others stay
			other, _ := All(s)
			overwritten(other[i])
			other[i] = parts[i]
			if !same(other, parts) {
				t.Fatalf("the partition %d written over: %+v, not %+v", i, other, parts)
			}
			overwritten(all[i])
		}
		clear(all[:cap(all)])
		if put, e := Put("t", parts); put != s || e != api.OK || hold(t, s) != api.OK {
			t.Fatalf("written over, %+v is put otherwise: %x, %d", parts, put, e)
		}
	}
}

// P10.3

func TestPutIsGot(t *testing.T) {
	r := rand.New(rand.NewSource(104))
	for range 1000 {
		table, parts := someTable(r), someParts(r, 12)
		s, e := Put(table, parts)
		if e != api.OK || hold(t, s) != api.OK {
			t.Fatalf("%s, %+v: %x, %d", table, parts, s, e)
		}
		if got, e := Table(s); got != table || e != api.OK {
			t.Fatalf("%s, %+v: Table: %q, %d", table, parts, got, e)
		}
		if got, e := All(s); !same(got, parts) || e != api.OK {
			t.Fatalf("%s, %+v: All: %+v, %d", table, parts, got, e)
		}
		if got, e := Keys(s); !slices.Equal(got, keysOf(parts)) || e != api.OK {
			t.Fatalf("%s, %+v: Keys: %q, %d", table, parts, got, e)
		}
	}
}

func TestEachBitTurned(t *testing.T) {
	for _, x := range written() {
		s := sealed(x.want)
		for at := range s {
			for bit := range 8 {
				b := []byte(s)
				b[at] ^= 1 << bit
				if e := hold(t, string(b)); e != api.ErrSum {
					t.Errorf("%s: the bit %d of the byte %d turned: %d", x.what, bit, at, e)
				}
			}
		}
	}
	r := rand.New(rand.NewSource(105))
	s, _ := Put("t", filled(t, api.MaxFile))
	for range 200 {
		b := []byte(s)
		at := r.Intn(len(b))
		b[at] ^= 1 << r.Intn(8)
		if _, e := All(string(b)); e != api.ErrSum {
			t.Errorf("a bit of the byte %d of many turned: %d", at, e)
		}
	}
}

// turned is bytes with something turned in them.
func turned(r *rand.Rand, b string) string {
	if b == "" {
		return "\x00"
	}
	few := string([]byte{"\x00\x01\x02\x03\x05\x08\x09a\xff"[r.Intn(9)]})
	i := r.Intn(len(b))
	if r.Intn(3) == 0 { // of few bytes, what says where the index begins is the greater part
		i = len(b) - 1 - r.Intn(min(len(b), 30))
	}
	to := i + r.Intn(min(12, len(b)-i)) + 1
	switch r.Intn(7) {
	case 0:
		return b[:i] + few + b[i+1:]
	case 1:
		return b[:i] + string([]byte{b[i] + 1}) + b[i+1:]
	case 2:
		return b[:i] + string([]byte{b[i] - 1}) + b[i+1:]
	case 3:
		return b[:i] + few + b[i:]
	case 4:
		return b[:i] + b[to:]
	case 5:
		return b[:to] + b[i:]
	}
	return b[:i] + string([]byte{b[i] ^ 1<<r.Intn(8)}) + b[i+1:]
}

func TestOfManyTurned(t *testing.T) {
	r := rand.New(rand.NewSource(106))
	found := make(map[api.Errno]int)
	for range 30000 {
		b := laidOf(someTable(r), someParts(r, 3)).body()
		for range r.Intn(3) {
			b = turned(r, b)
		}
		if r.Intn(9) > 0 {
			b = sealed(b)
		}
		found[hold(t, b)]++
	}
	for _, e := range []api.Errno{api.OK, api.ErrSum, api.ErrBytes} {
		if found[e] < 1000 {
			t.Errorf("the error %d came %d times", e, found[e])
		}
	}
}

func TestOfEachByteTurned(t *testing.T) {
	for _, x := range written() {
		if len(x.want) > 150 {
			continue
		}
		for at := range x.want {
			for v := range 256 {
				b := []byte(x.want)
				b[at] = byte(v)
				hold(t, sealed(string(b)))
			}
		}
	}
}

// eachShort calls f with every text of up to most of the bytes of some.
func eachShort(some string, most int, f func(s string)) {
	var grow func(s string)
	grow = func(s string) {
		f(s)
		for i := 0; i < len(some) && len(s) < most; i++ {
			grow(s + some[i:i+1])
		}
	}
	grow("")
}

func TestOfAllShort(t *testing.T) {
	eachShort("\x00\x01t", 7, func(s string) {
		hold(t, s)
		hold(t, sealed(s))
		hold(t, sealed(s+"\x00\x00\x00\x00"))
		hold(t, sealed("\x00\x00\x00"+s+"\x00\x00\x00\x03"))
		hold(t, sealed("\x00\x00\x00"+"\x01\x01t\x01\x01"+s+"\x00\x00\x00\x03"))
	})
}

func TestOfAnyBytes(t *testing.T) {
	r := rand.New(rand.NewSource(107))
	for range 20000 {
		b := make([]byte, r.Intn(60))
		for i := range b {
			b[i] = byte(r.Intn(1 << r.Intn(9)))
		}
		hold(t, string(b))
		hold(t, sealed(string(b)))
		hold(t, sealed(string(b)+place(r.Intn(len(b)+2))))
	}
	for _, n := range []int{4097, api.MaxFile - 8, api.MaxFile, 3 * api.MaxFile} {
		for _, few := range []string{"\x00", "\x01", "\x01\x01", "\x02\x01", "\x03\x01", "\x03\x03\xff\xff", "\x08\x01", "\xff", "\x01t"} {
			s := strings.Repeat(few, n)[:n]
			hold(t, s)
			hold(t, sealed(s))
			for _, begin := range []int{0, 1, n / 2, n - 1, n} {
				hold(t, sealed(s+place(begin)))
			}
		}
	}
}
