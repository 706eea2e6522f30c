package segment

import (
	"bytes"
	"math/rand"
	"slices"
	"strings"
	"testing"

	"clerestory/token"
)

// xs is a text of so many letters.
func xs(n int) string {
	return strings.Repeat("x", n)
}

// zeros is so many bytes that are 0.
func zeros(n int) string {
	return strings.Repeat("\x00", n)
}

// piece is a piece with the right sum.
func piece(kind byte, body string) string {
	two := string([]byte{kind, byte(len(body))})
	return two + token.Bytes(token.Of(two+body)) + body
}

// log is bodies one behind the other, and where each ends.
func log(bodies []string) (b []byte, ends []int) {
	for _, body := range bodies {
		b = Put(b, body)
		ends = append(ends, len(b))
	}
	return b, ends
}

// many are bodies that come to stand at all sorts of edges.
func many() []string {
	return []string{
		"one", "", xs(107), // the first block, just full
		xs(122),      // the second, too
		xs(115), "y", // a byte where seven are left: the third is full
		xs(115), "yz", // one byte more than the fourth has room for
		xs(109), "", // six bytes left, and none of them taken
		"", xs(109), "", // one byte left
		"\x00\x00\x00\x00\x00\x00\x00\x01",
		xs(300), xs(122*4 + 1), "four",
		strings.Repeat("\xff\x01\x00\x04", 200),
	}
}

// laid is a body behind a log by a count of each byte: slow, and otherwise than Put does it.
func laid(b []byte, body string) []byte {
	b = slices.Clone(b)
	for len(b)%128 > 121 {
		b = append(b, 0)
	}
	pieces := []string{""}
	at := len(b)%128 + 6
	for i := range len(body) {
		if at == 128 {
			pieces = append(pieces, "")
			at = 6
		}
		pieces[len(pieces)-1] += body[i : i+1]
		at++
	}
	for i, p := range pieces {
		k := byte(3)
		if i == 0 {
			k -= 1
		}
		if i == len(pieces)-1 {
			k += 1
		}
		if len(pieces) == 1 {
			k = 1
		}
		b = append(b, piece(k, p)...)
	}
	return b
}

// guess is the body that a log may have at a place, by the kinds and lengths of its pieces alone.
func guess(b []byte, at int) (string, bool) {
	body := ""
	if 128-at%128 < 7 {
		at += 128 - at%128
	}
	for at+6 <= len(b) {
		k, to := b[at], at+6+int(b[at+1])
		if to > len(b) {
			return "", false
		}
		body += string(b[at+6 : to])
		if k == 1 || k == 4 {
			return body, true
		}
		at = to
	}
	return "", false
}

// found is what Scan is asked for: the bodies that, laid one behind the other, are the log's front.
func found(b []byte) (bodies []string, good int) {
	for {
		body, ok := guess(b, good)
		if !ok {
			return bodies, good
		}
		next := laid(b[:good], body)
		if !bytes.HasPrefix(b, next) {
			return bodies, good
		}
		bodies, good = append(bodies, body), len(next)
	}
}

// scanned holds Scan against what it is asked for.
func scanned(t *testing.T, what string, b []byte, bodies []string, good int) {
	t.Helper()
	kept := slices.Clone(b)
	gotBodies, gotGood := Scan(b)
	if !slices.Equal(gotBodies, bodies) || gotGood != good {
		t.Errorf("%s: Scan: %d bodies up to %d, not %d up to %d", what, len(gotBodies), gotGood, len(bodies), good)
	}
	if !bytes.Equal(b, kept) {
		t.Errorf("%s: Scan changed the log", what)
	}
}

// P4.1

func TestBlock(t *testing.T) {
	if Block != 128 {
		t.Errorf("Block: %d", Block)
	}
}

func TestPutByHand(t *testing.T) {
	// the sums by hand: token's place of 01 00 is (257+2)*257+1 = 66564, of 01 01 61 is ((257+2)*257+2)*257+98
	for _, c := range []struct {
		body string
		want []byte
	}{
		{"", []byte{1, 0, 0x00, 0x01, 0x04, 0x04}},
		{"a", []byte{1, 1, 0x01, 0x05, 0x09, 0x67, 0x61}},
	} {
		if got := Put(nil, c.body); !bytes.Equal(got, c.want) {
			t.Errorf("Put of %q: % x, not % x", c.body, got, c.want)
		}
	}
}

func TestPut(t *testing.T) {
	for _, c := range []struct {
		ahead int
		body  string
		want  string
	}{
		{0, "", piece(1, "")},
		{0, "ordinary", piece(1, "ordinary")},
		{3, "\xff\x00", piece(1, "\xff\x00")},
		{0, xs(121), piece(1, xs(121))},
		{0, xs(122), piece(1, xs(122))},
		{0, xs(123), piece(2, xs(122)) + piece(4, "x")},
		{0, xs(244), piece(2, xs(122)) + piece(4, xs(122))},
		{0, xs(245), piece(2, xs(122)) + piece(3, xs(122)) + piece(4, "x")},
		{0, xs(366), piece(2, xs(122)) + piece(3, xs(122)) + piece(4, xs(122))},
		{0, xs(367), piece(2, xs(122)) + piece(3, xs(122)) + piece(3, xs(122)) + piece(4, "x")},
		{128, "", piece(1, "")},
		{128, xs(122), piece(1, xs(122))},
		{256, xs(123), piece(2, xs(122)) + piece(4, "x")},
		{60, xs(62), piece(1, xs(62))},
		{60, xs(63), piece(2, xs(62)) + piece(4, "x")},
		{121, "", piece(1, "")},
		{121, "a", piece(1, "a")},
		{121, "ab", piece(2, "a") + piece(4, "b")},
		{121, xs(200), piece(2, "x") + piece(3, xs(122)) + piece(4, xs(77))},
		{120, "ab", piece(1, "ab")},
		{122, "", zeros(6) + piece(1, "")},
		{122, "a", zeros(6) + piece(1, "a")},
		{124, xs(123), zeros(4) + piece(2, xs(122)) + piece(4, "x")},
		{127, "", zeros(1) + piece(1, "")},
		{255, xs(122), zeros(1) + piece(1, xs(122))},
	} {
		ahead := strings.Repeat("\x07", c.ahead)
		if got := Put([]byte(ahead), c.body); string(got) != ahead+c.want {
			t.Errorf("Put of %d behind %d: %q, not %q", len(c.body), c.ahead, got[min(c.ahead, len(got)):], c.want)
		}
	}
}

func TestPutEverywhere(t *testing.T) {
	text := strings.Repeat("a text \x00\xff", 60)
	for ahead := range 2*128 + 2 {
		b := []byte(strings.Repeat("\x09", ahead))
		for n := range 400 {
			if got := Put(b, text[:n]); !bytes.Equal(got, laid(b, text[:n])) {
				t.Fatalf("Put of %d behind %d: % x", n, ahead, got[ahead:])
			}
		}
	}
}

func TestPutNewMemory(t *testing.T) {
	for _, n := range []int{0, 1, 121, 122, 127, 128} {
		room := bytes.Repeat([]byte{77}, 1000)
		b := room[:n]
		one := Put(b, "one")
		other := Put(b, "other")
		if !bytes.Equal(room, bytes.Repeat([]byte{77}, 1000)) {
			t.Errorf("%d: Put changed what was handed in, or its spare room", n)
		}
		for i := range other[:cap(other)] {
			other[:cap(other)][i] = 5
		}
		if !bytes.Equal(one, laid(b, "one")) || !bytes.Equal(room, bytes.Repeat([]byte{77}, 1000)) {
			t.Errorf("%d: two answers share memory, or one with what was handed in", n)
		}
	}
}

// P4.2

func TestScanLogs(t *testing.T) {
	for _, bodies := range [][]string{
		nil, {""}, {"a"}, {"", "", ""}, {"a", "b", "c"}, {xs(121)}, {xs(122)}, {xs(123)}, {xs(122), ""}, {xs(5000), "a"},
		{xs(115), ""}, {xs(115), "", "a"}, {xs(115), "a"}, {xs(115), "ab"}, {xs(116), ""}, {xs(116), "a"}, {xs(121), ""}, {xs(121), xs(123)},
		{zeros(122), zeros(10)}, {xs(2), zeros(300), "\x01\x00\x00\x01\x04\x04"}, many(),
	} {
		b, _ := log(bodies)
		scanned(t, "a log", b, bodies, len(b))
	}
}

func TestScanEveryLength(t *testing.T) {
	for n := range 400 {
		for m := range 140 {
			bodies := []string{xs(n), xs(m), "behind"}
			b, _ := log(bodies)
			if got, good := Scan(b); !slices.Equal(got, bodies) || good != len(b) {
				t.Fatalf("%d, %d: %d bodies up to %d of %d", n, m, len(got), good, len(b))
			}
		}
	}
}

func TestScanRefuses(t *testing.T) {
	full := xs(122)
	gap := piece(1, xs(118)) // leaves four bytes
	for _, c := range []struct {
		what   string
		b      string
		bodies []string
		good   int
	}{
		{"a byte", "\x01", nil, 0},
		{"five bytes", "\x01\x00\x00\x01\x04", nil, 0},
		{"noughts", zeros(1), nil, 0},
		{"a block of noughts", zeros(128), nil, 0},
		{"no log", "this is no log at all, whatever it may be", nil, 0},
		{"bytes of 255", strings.Repeat("\xff", 300), nil, 0},
		{"a piece that is not all there", piece(1, "ab")[:7], nil, 0},
		{"only what is ahead of a piece's bytes", piece(1, "ab")[:6], nil, 0},
		{"a length that is too great by one", "\x01\x02" + piece(1, "a")[2:], nil, 0},
		{"a piece over a block's end by one", piece(1, xs(123)) + piece(1, "a"), nil, 0},
		{"a piece of 128", piece(1, xs(128)), nil, 0},
		{"a piece of 255", piece(1, xs(255)), nil, 0},
		{"a piece over a block's end, behind another", piece(1, xs(115)) + piece(1, "ab"), []string{xs(115)}, 121},
		{"an old sum", piece(1, "a")[:2] + piece(1, "b")[2:6] + "a", nil, 0},
		{"a sum of the bytes alone", "\x01\x01" + token.Bytes(token.Of("a")) + "a", nil, 0},
		{"a sum backwards", "\x01\x01\x67\x09\x05\x01a", nil, 0},
		{"kind 0", piece(0, "a"), nil, 0},
		{"kind 0 with none", piece(0, ""), nil, 0},
		{"kind 0 of a block", piece(0, full), nil, 0},
		{"kind 3 first", piece(3, full) + piece(4, "a"), nil, 0},
		{"kind 4 first", piece(4, "a"), nil, 0},
		{"kind 5", piece(5, "a"), nil, 0},
		{"kind 5 of a block", piece(5, full) + piece(4, "a"), nil, 0},
		{"kind 129", piece(129, "a"), nil, 0},
		{"kind 4 behind 1", piece(1, "a") + piece(4, "b"), []string{"a"}, 7},
		{"kind 3 behind 1", piece(1, full) + piece(3, full) + piece(4, "b"), []string{full}, 128},
		{"kind 1 behind 2", piece(2, full) + piece(1, "b"), nil, 0},
		{"kind 2 behind 2", piece(2, full) + piece(2, full) + piece(4, "b"), nil, 0},
		{"kind 5 behind 2", piece(2, full) + piece(5, full) + piece(4, "b"), nil, 0},
		{"kind 0 behind 2", piece(2, full) + piece(0, "b"), nil, 0},
		{"kind 1 behind 3", piece(2, full) + piece(3, full) + piece(1, "b"), nil, 0},
		{"kind 2 behind 3", piece(2, full) + piece(3, full) + piece(2, full) + piece(4, "b"), nil, 0},
		{"kind 4 behind 4", piece(2, full) + piece(4, "a") + piece(4, "b"), []string{full + "a"}, 135},
		{"kind 3 behind 4", piece(2, full) + piece(4, full) + piece(3, full) + piece(4, "b"), []string{full + full}, 256},
		{"kind 2 that does not end the block", piece(2, xs(121)) + piece(4, "a"), nil, 0},
		{"kind 2 with none", piece(2, "") + piece(4, "a"), nil, 0},
		{"kind 2 short by its last one, noughts behind", piece(2, xs(121)) + zeros(1) + piece(4, "a"), nil, 0},
		{"kind 3 that does not end the block", piece(2, full) + piece(3, xs(121)) + piece(4, "a"), nil, 0},
		{"kind 3 with none", piece(2, full) + piece(3, "") + piece(4, "a"), nil, 0},
		{"kind 4 with none", piece(2, full) + piece(4, ""), nil, 0},
		{"kind 4 with none behind 3", piece(2, full) + piece(3, full) + piece(4, ""), nil, 0},
		{"kind 2 and no more", piece(2, full), nil, 0},
		{"kinds 2 and 3 and no more", piece(2, full) + piece(3, full), nil, 0},
		{"kind 2 behind a body", piece(1, "a") + piece(2, xs(115)) + piece(1, "b"), []string{"a"}, 7},
		{"a nought between", piece(1, "a") + zeros(1) + piece(1, "b"), []string{"a"}, 7},
		{"noughts first", zeros(6) + piece(1, "b"), nil, 0},
		{"noughts that end the log", gap + zeros(4), []string{xs(118)}, 124},
		{"noughts that are not all there", gap + zeros(2), []string{xs(118)}, 124},
		{"a byte that is no nought, first", gap + "\x01\x00\x00\x00" + piece(1, "a"), []string{xs(118)}, 124},
		{"a byte that is no nought, between", gap + "\x00\x00\x80\x00" + piece(1, "a"), []string{xs(118)}, 124},
		{"a byte that is no nought, last", gap + "\x00\x00\x00\xff" + piece(1, "a"), []string{xs(118)}, 124},
		{"no noughts", gap + piece(1, "a"), []string{xs(118)}, 124},
		{"noughts that are too many", gap + zeros(5) + piece(1, "a"), []string{xs(118)}, 124},
		{"a piece where six bytes are left", piece(1, xs(116)) + piece(1, ""), []string{xs(116)}, 122},
		{"that, and one behind", piece(1, xs(116)) + piece(1, "") + piece(1, "a"), []string{xs(116)}, 122},
		{"noughts where seven bytes are left", piece(1, xs(115)) + zeros(7) + piece(1, "a"), []string{xs(115)}, 121},
		{"what is whole behind what is not", piece(1, "a") + piece(0, "b") + piece(1, "c"), []string{"a"}, 7},
		{"what is whole a block behind what is not", piece(1, "a") + zeros(121) + piece(1, "c"), []string{"a"}, 7},
	} {
		scanned(t, c.what, []byte(c.b), c.bodies, c.good)
	}
}

func TestScanTakes(t *testing.T) {
	full := xs(122)
	gap := piece(1, xs(118)) + zeros(4)
	for _, c := range []struct {
		what   string
		b      string
		bodies []string
	}{
		{"an empty body", piece(1, ""), []string{""}},
		{"a block", piece(1, full), []string{full}},
		{"noughts and a body behind", gap + piece(1, "a"), []string{xs(118), "a"}},
		{"a nought and a body behind", piece(1, xs(121)) + zeros(1) + piece(1, "a"), []string{xs(121), "a"}},
		{"six noughts and a body behind", piece(1, xs(116)) + zeros(6) + piece(1, ""), []string{xs(116), ""}},
		{"noughts and a body over blocks", gap + piece(2, full) + piece(3, full) + piece(4, "a"), []string{xs(118), full + full + "a"}},
		{"an empty body where seven bytes are left, and a nought", piece(1, xs(115)) + piece(1, "") + zeros(1) + piece(1, "a"), []string{xs(115), "", "a"}},
		{"a byte where seven bytes are left", piece(1, xs(115)) + piece(2, "x") + piece(4, "x"), []string{xs(115), "xx"}},
		{"last pieces that end a block", piece(2, full) + piece(4, full) + piece(1, "a"), []string{full + full, "a"}},
	} {
		scanned(t, c.what, []byte(c.b), c.bodies, len(c.b))
	}
}

func TestScanNewMemory(t *testing.T) {
	b, _ := log(many())
	bodies, _ := Scan(b)
	again, _ := Scan(b)
	clear(b)
	for i := range again[:cap(again)] {
		again[:cap(again)][i] = "other"
	}
	if !slices.Equal(bodies, many()) {
		t.Error("the bodies share memory with the log, or with those of another call")
	}
}

// pieces is a list of pieces with right sums, many of them where and as long as they may be.
func pieces(r *rand.Rand) []byte {
	var b []byte
	for range r.Intn(12) {
		left := 128 - len(b)%128
		if left < 7 && r.Intn(10) > 0 {
			b = append(b, zeros(left)...)
			left = 128
		}
		kind, n := byte(1+r.Intn(4)), r.Intn(130)
		switch r.Intn(6) {
		case 0:
			n = r.Intn(3)
		case 1, 2, 3:
			n = max(0, left-6)
		case 4:
			n = max(0, left-6-r.Intn(9))
		}
		b = append(b, piece(kind, string(bytes.Repeat([]byte{byte(r.Intn(3))}, n)))...)
	}
	return b
}

func TestScanPieces(t *testing.T) {
	r := rand.New(rand.NewSource(4))
	for i := range 60000 {
		b := pieces(r)
		bodies, good := found(b)
		if got, at := Scan(b); !slices.Equal(got, bodies) || at != good {
			t.Fatalf("%d: %d bodies up to %d, not %d up to %d: % x", i, len(got), at, len(bodies), good, b)
		}
	}
}

func TestScanAnyBytes(t *testing.T) {
	r := rand.New(rand.NewSource(5))
	for i := range 3000 {
		bodies := many()
		r.Shuffle(len(bodies), func(i, j int) { bodies[i], bodies[j] = bodies[j], bodies[i] })
		b, _ := log(bodies[:r.Intn(8)])
		for range r.Intn(3) {
			if len(b) > 0 {
				b[r.Intn(len(b))] = byte(r.Intn(6))
			}
		}
		tail := make([]byte, r.Intn(20))
		r.Read(tail)
		b = append(b, tail...)
		want, good := found(b)
		if got, at := Scan(b); !slices.Equal(got, want) || at != good {
			t.Fatalf("%d: %d bodies up to %d, not %d up to %d: % x", i, len(got), at, len(want), good, b)
		}
	}
}

// P4.3

func TestMany(t *testing.T) {
	_, ends := log(many())
	want := []int{9, 15, 128, 256, 377, 384, 505, 519, 634, 646, 652, 767, 774}
	if !slices.Equal(ends[:len(want)], want) {
		t.Errorf("the bodies end at %d, not at %d", ends, want)
	}
}

func TestTornTail(t *testing.T) {
	bodies := many()
	b, ends := log(bodies)
	n, good := 0, 0
	for cut := range len(b) + 1 {
		if n < len(ends) && ends[n] == cut {
			n, good = n+1, cut
		}
		torn := b[:cut:cut]
		got, at := Scan(torn)
		if !slices.Equal(got, bodies[:n]) || at != good {
			t.Fatalf("cut at %d: %d bodies up to %d, not %d up to %d", cut, len(got), at, n, good)
		}
		// what is cut off may be put again
		mended := torn[:at]
		for _, body := range bodies[n:] {
			mended = Put(mended, body)
		}
		if !bytes.Equal(mended, b) {
			t.Fatalf("cut at %d: the log that goes on is another", cut)
		}
	}
}

func TestTurnedBytes(t *testing.T) {
	bodies := []string{"one", "", xs(104), "y", "z", xs(120), xs(130), "four"}
	b, ends := log(bodies)
	for i := range b {
		n := 0
		for ends[n] <= i {
			n++
		}
		good := 0
		if n > 0 {
			good = ends[n-1]
		}
		for turn := 1; turn < 256; turn++ {
			turned := slices.Clone(b)
			turned[i] ^= byte(turn)
			if got, at := Scan(turned); !slices.Equal(got, bodies[:n]) || at != good {
				t.Fatalf("byte %d turned by %d: %d bodies up to %d, not %d up to %d", i, turn, len(got), at, n, good)
			}
		}
	}
}

func TestCutAndGoneOn(t *testing.T) {
	b, ends := log([]string{"one", xs(200), xs(30)})
	for cut := ends[1]; cut < len(b); cut++ {
		_, good := Scan(b[:cut])
		next := Put(b[:good], "instead")
		scanned(t, "gone on", next, []string{"one", xs(200), "instead"}, len(next))
		if kept, _ := log([]string{"one", xs(200), xs(30)}); !bytes.Equal(b, kept) {
			t.Fatalf("cut at %d: what was torn off was written over", cut)
		}
	}
}
