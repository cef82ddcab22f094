package wire_test

import (
	"bytes"
	"encoding/binary"
	"math"
	"slices"
	"strings"
	"testing"

	"turnbuckle/api"
	"turnbuckle/wire"
)

const allowed = "abcdefghijklmnopqrstuvwxyzABCDEFGHIJKLMNOPQRSTUVWXYZ0123456789_"

// edges are the numbers about which a varint's width, and what a list may hold, changes.
func edges() []uint64 {
	l := []uint64{0, 1, 2, 300, 1000, 1001, math.MaxInt32, math.MaxInt32 + 1, math.MaxUint64}
	for shift := 7; shift < 64; shift++ {
		l = append(l, 1<<shift-1, 1<<shift, 1<<shift+1)
	}
	return l
}

// number is P4.1's varint, by the library's own LEB128.
func number(n uint64) []byte {
	return binary.AppendUvarint(nil, n)
}

func join(parts ...[]byte) []byte {
	return slices.Concat(parts...)
}

func repeat(v byte, n int) []byte {
	return bytes.Repeat([]byte{v}, n)
}

// high is n bytes that each have another behind them.
func high(n int) []byte {
	return repeat(200, n)
}

// modelNumber is P4.1 of TakeNumber, error by error.
func modelNumber(b []byte) (uint64, int, api.Errno) {
	final := slices.IndexFunc(b, func(v byte) bool { return v < 128 })
	switch {
	case len(b) >= 10 && (final < 0 || final >= 10):
		return 0, 0, api.ErrForm
	case final < 0:
		return 0, 0, api.ErrShort
	case b[final] == 0 && final != 0:
		return 0, 0, api.ErrForm
	case final == 9 && b[9] > 1:
		return 0, 0, api.ErrRange
	}
	n := uint64(0)
	for i, v := range b[:final+1] {
		n |= uint64(v&127) << (7 * i)
	}
	return n, final + 1, api.OK
}

// modelText is P4.2 of TakeText, error by error.
func modelText(b []byte) (string, int, api.Errno) {
	length, width, err := modelNumber(b)
	rest := b[width:]
	switch {
	case err != api.OK:
		return "", 0, err
	case length == 0 || length > 16:
		return "", 0, api.ErrForm
	case uint64(len(rest)) < length:
		return "", 0, api.ErrShort
	}
	s := string(rest[:length])
	if strings.Trim(s, allowed) != "" {
		return "", 0, api.ErrForm
	}
	return s, width + len(s), api.OK
}

// modelInts is P4.3 of TakeInts, byte by byte.
func modelInts(b []byte) ([]int, int, api.Errno) {
	count, at, err := modelNumber(b)
	if err == api.OK && count > 1000 {
		err = api.ErrSize
	}
	var l []int
	for err == api.OK && uint64(len(l)) < count {
		n, width, bad := modelNumber(b[at:])
		if err = bad; err == api.OK && n > 2147483647 {
			err = api.ErrRange
		}
		l = append(l, int(n))
		at += width
	}
	if err != api.OK {
		return nil, 0, err
	}
	return l, at, api.OK
}

func wantNumber(t *testing.T, b []byte, n uint64, width int, err api.Errno) {
	t.Helper()
	given := bytes.Clone(b)
	m, w, e := wire.TakeNumber(given)
	if m != n || w != width || e != err {
		t.Errorf("TakeNumber(%v) = %d, %d, %d; want %d, %d, %d", b, m, w, e, n, width, err)
	}
	if !bytes.Equal(given, b) {
		t.Errorf("TakeNumber changed %v to %v", b, given)
	}
}

func wantText(t *testing.T, b []byte, s string, width int, err api.Errno) {
	t.Helper()
	given := bytes.Clone(b)
	r, w, e := wire.TakeText(given)
	if r != s || w != width || e != err {
		t.Errorf("TakeText(%v) = %q, %d, %d; want %q, %d, %d", b, r, w, e, s, width, err)
	}
	if !bytes.Equal(given, b) {
		t.Errorf("TakeText changed %v to %v", b, given)
	}
}

func wantInts(t *testing.T, b []byte, l []int, width int, err api.Errno) {
	t.Helper()
	given := bytes.Clone(b)
	r, w, e := wire.TakeInts(given)
	if !slices.Equal(r, l) || w != width || e != err {
		t.Errorf("TakeInts(%v) = %v, %d, %d; want %v, %d, %d", b, r, w, e, l, width, err)
	}
	if !bytes.Equal(given, b) {
		t.Errorf("TakeInts changed %v to %v", b, given)
	}
}

// wantBytes holds what Text or Ints answered against what it should.
func wantBytes(t *testing.T, of any, b []byte, err api.Errno, want []byte, wantErr api.Errno) {
	t.Helper()
	if !bytes.Equal(b, want) || err != wantErr {
		t.Errorf("of %v: %v, %d; want %v, %d", of, b, err, want, wantErr)
	}
}

// words calls see with each sequence of at most n of the given bytes.
func words(letters []byte, n int, see func([]byte)) {
	var extend func(b []byte)
	extend = func(b []byte) {
		see(b)
		if len(b) == n {
			return
		}
		for _, v := range letters {
			extend(append(slices.Clip(b), v))
		}
	}
	extend(nil)
}

// tails are bytes that may follow an encoding.
func tails() [][]byte {
	return [][]byte{nil, {0}, {1}, {127}, {128}, {255}, []byte("a"), []byte("_z"), repeat(0, 20), high(20), repeat(255, 9), {128, 0}}
}

func TestExamples(t *testing.T) {
	if b := wire.Number(300); !bytes.Equal(b, []byte{172, 2}) {
		t.Error(b)
	}
	wantNumber(t, []byte{172, 2}, 300, 2, api.OK)
	wantNumber(t, []byte{128, 0}, 0, 0, api.ErrForm)
	b, err := wire.Text("ab")
	wantBytes(t, "ab", b, err, []byte{2, 97, 98}, api.OK)
	wantText(t, []byte{2, 97, 98}, "ab", 3, api.OK)
	b, err = wire.Ints([]int{1, 200})
	wantBytes(t, "1 and 200", b, err, []byte{2, 1, 200, 1}, api.OK)
	wantInts(t, []byte{2, 1, 200, 1}, []int{1, 200}, 4, api.OK)
}

// P4.1
func TestNumber(t *testing.T) {
	for _, c := range []struct {
		n uint64
		b []byte
	}{
		{0, []byte{0}},
		{1, []byte{1}},
		{127, []byte{127}},
		{128, []byte{128, 1}},
		{16383, []byte{255, 127}},
		{16384, []byte{128, 128, 1}},
		{1 << 63, append(repeat(128, 9), 1)},
		{math.MaxUint64, append(repeat(255, 9), 1)},
	} {
		if b := wire.Number(c.n); !bytes.Equal(b, c.b) {
			t.Errorf("Number(%d) = %v; want %v", c.n, b, c.b)
		}
		wantNumber(t, c.b, c.n, len(c.b), api.OK)
	}
	for _, n := range edges() {
		if b := wire.Number(n); !bytes.Equal(b, number(n)) {
			t.Errorf("Number(%d) = %v; want %v", n, b, number(n))
		}
	}
}

// P4.1
func TestTakeNumberErrors(t *testing.T) {
	for _, c := range []struct {
		b   []byte
		err api.Errno
	}{
		{nil, api.ErrShort},
		{[]byte{}, api.ErrShort},
		{[]byte{128}, api.ErrShort},
		{[]byte{255}, api.ErrShort},
		{high(9), api.ErrShort},
		{high(10), api.ErrForm}, // ahead of ErrShort
		{high(11), api.ErrForm},
		{join(high(10), []byte{0}), api.ErrForm},
		{join(high(10), []byte{1}), api.ErrForm},
		{repeat(128, 10), api.ErrForm},
		{[]byte{128, 0}, api.ErrForm},
		{[]byte{255, 0, 1}, api.ErrForm},
		{join(high(8), []byte{0}), api.ErrForm},
		{join(high(9), []byte{0}), api.ErrForm},
		{join(high(9), []byte{2}), api.ErrRange},
		{join(high(9), []byte{127}), api.ErrRange},
		{join(repeat(128, 9), []byte{2, 0}), api.ErrRange},
	} {
		wantNumber(t, c.b, 0, 0, c.err)
	}
}

// P4.1: the least number is one byte, and a byte of 0 at the beginning has nothing wrong.
func TestTakeNumberNoErrors(t *testing.T) {
	wantNumber(t, []byte{0}, 0, 1, api.OK)
	wantNumber(t, []byte{0, 0}, 0, 1, api.OK)
	wantNumber(t, []byte{127, 255}, 127, 1, api.OK)
	wantNumber(t, append(repeat(128, 8), 127), 127<<56, 9, api.OK)
	wantNumber(t, append(repeat(128, 8), 2), 1<<57, 9, api.OK)
}

// P4.1, and of P4.4 that what was decoded is encoded as the same bytes.
func TestTakeNumberOfAllShortBytes(t *testing.T) {
	see := func(b []byte) {
		n, width, err := modelNumber(b)
		wantNumber(t, b, n, width, err)
		if err == api.OK && !bytes.Equal(wire.Number(n), b[:width]) {
			t.Errorf("%v was decoded as %d, encoded as %v", b[:width], n, wire.Number(n))
		}
	}
	letters := []byte{0, 1, 2, 127, 128, 255}
	words(letters, 5, see)
	for width := 5; width <= 11; width++ {
		words(letters, 3, func(b []byte) {
			see(join(repeat(128, width), b))
			see(join(repeat(255, width), b))
		})
	}
	for first := range 256 {
		for second := range 256 {
			see([]byte{byte(first), byte(second)})
		}
	}
}

// P4.2
func TestText(t *testing.T) {
	for _, s := range []string{"a", "z", "A", "Z", "0", "9", "_", "ab", "_0", "A_9z", "abcdefghijklmno", "abcdefghijklmnop", strings.Repeat("_", 16)} {
		b, err := wire.Text(s)
		want := append([]byte{byte(len(s))}, s...)
		wantBytes(t, s, b, err, want, api.OK)
		wantText(t, want, s, len(want), api.OK)
	}
	for _, s := range []string{"", "-", "a-b", "a b", " ab", "ab\n", "ab\x00", "é", "aé", "\xff", "a\xc3", "\xc3a", "\uFFFD", "ａ", "٣", "ªb", "abcdefghijklmnopq", "abcdefghijklmno é", "abcdefghijklmnoé", strings.Repeat("x", 300), strings.Repeat("-", 17)} {
		b, err := wire.Text(s)
		wantBytes(t, s, b, err, nil, api.ErrArg)
	}
}

// P4.2: each byte, at each place of a name of each length.
func TestTextOfAllBytes(t *testing.T) {
	for length := 1; length <= 16; length++ {
		for at := range length {
			for v := range 256 {
				name := repeat('n', length)
				name[at] = byte(v)
				code := append([]byte{byte(length)}, name...)
				b, err := wire.Text(string(name))
				if strings.IndexByte(allowed, byte(v)) >= 0 {
					wantBytes(t, name, b, err, code, api.OK)
					wantText(t, code, string(name), length+1, api.OK)
				} else {
					wantBytes(t, name, b, err, nil, api.ErrArg)
					wantText(t, code, "", 0, api.ErrForm)
				}
			}
		}
	}
}

// P4.2: the names' lengths.
func TestTextOfAllLengths(t *testing.T) {
	for length := range 300 {
		name := repeat('n', length)
		code := join(number(uint64(length)), name)
		b, err := wire.Text(string(name))
		if length >= 1 && length <= 16 {
			wantBytes(t, length, b, err, code, api.OK)
			wantText(t, code, string(name), len(code), api.OK)
		} else {
			wantBytes(t, length, b, err, nil, api.ErrArg)
			wantText(t, code, "", 0, api.ErrForm)
		}
	}
}

// P4.2
func TestTakeTextErrors(t *testing.T) {
	name := []byte("abcdefghijklmnopqrst")
	for _, c := range []struct {
		b   []byte
		err api.Errno
	}{
		{nil, api.ErrShort},
		{[]byte{130}, api.ErrShort}, // a length of 2 or more that ends too early
		{high(10), api.ErrForm},
		{join([]byte{130, 0}, name), api.ErrForm},      // 2, but not its varint
		{join(high(9), []byte{2}, name), api.ErrRange}, // ahead of the length's own range
		{join(high(9), []byte{0}, name), api.ErrForm},
		{[]byte{0}, api.ErrForm}, // ahead of ErrShort, as are those that follow
		{[]byte{17}, api.ErrForm},
		{[]byte{127}, api.ErrForm},
		{[]byte{128, 1}, api.ErrForm},
		{join([]byte{0}, name), api.ErrForm},
		{join([]byte{17}, name), api.ErrForm},
		{join(number(256+2), name), api.ErrForm},
		{join(number(1<<32+2), name), api.ErrForm},
		{join(number(1<<63), name), api.ErrForm},
		{join(number(1<<63+2), name), api.ErrForm},
		{join(number(math.MaxInt64), name), api.ErrForm},
		{join(number(math.MaxUint64), name), api.ErrForm},
		{join(number(math.MaxUint64-1), name), api.ErrForm},
		{[]byte{1}, api.ErrShort},
		{[]byte{16}, api.ErrShort},
		{[]byte("\x02a"), api.ErrShort},
		{[]byte("\x02-"), api.ErrShort}, // ahead of what isn't a name
		{[]byte("\x02\xff"), api.ErrShort},
		{append([]byte{16}, name[:15]...), api.ErrShort},
		{[]byte("\x02a-"), api.ErrForm},
		{[]byte("\x02-a"), api.ErrForm},
		{[]byte("\x02é"), api.ErrForm},
		{[]byte("\x01é"), api.ErrForm},
		{[]byte("\x01\x00"), api.ErrForm},
		{[]byte("\x03\uFFFD"), api.ErrForm},
	} {
		wantText(t, c.b, "", 0, c.err)
	}
	// What follows the name isn't looked at.
	wantText(t, []byte("\x02ab-"), "ab", 3, api.OK)
	wantText(t, []byte("\x02ab\xc3"), "ab", 3, api.OK)
	wantText(t, append([]byte{16}, name...), "abcdefghijklmnop", 17, api.OK)
}

// P4.2, and of P4.4 that what was decoded is encoded as the same bytes.
func TestTakeTextOfAllShortBytes(t *testing.T) {
	words([]byte{0, 1, 2, 3, 17, 128, 'a', 'Z', '_', '-'}, 4, func(b []byte) {
		s, width, err := modelText(b)
		wantText(t, b, s, width, err)
		if err == api.OK {
			c, e := wire.Text(s)
			wantBytes(t, s, c, e, b[:width], api.OK)
		}
	})
}

// ramp is n elements that differ from each other, with widths of 1 to 3 bytes.
func ramp(n int) []int {
	l := make([]int, n)
	for i := range l {
		l[i] = i * 37
	}
	return l
}

func encode(l []int) []byte {
	b := number(uint64(len(l)))
	for _, n := range l {
		b = append(b, number(uint64(n))...)
	}
	return b
}

// P4.3
func TestInts(t *testing.T) {
	big := slices.Repeat([]int{math.MaxInt32}, 1000)
	for _, l := range [][]int{nil, {}, {0}, {1}, {127}, {128}, {1, 200}, {0, 0, 0}, {math.MaxInt32}, {5, math.MaxInt32, 5}, ramp(127), ramp(128), ramp(999), ramp(1000), big} {
		given := slices.Clone(l)
		b, err := wire.Ints(given)
		wantBytes(t, l, b, err, encode(l), api.OK)
		if !slices.Equal(given, l) {
			t.Errorf("Ints changed %v to %v", l, given)
		}
		wantInts(t, encode(l), l, len(encode(l)), api.OK)
	}
}

// P4.3
func TestIntsErrors(t *testing.T) {
	for _, c := range []struct {
		l   []int
		err api.Errno
	}{
		{ramp(1001), api.ErrSize},
		{ramp(5000), api.ErrSize},
		{[]int{-1}, api.ErrArg},
		{[]int{math.MaxInt32 + 1}, api.ErrArg},
		{[]int{math.MinInt}, api.ErrArg},
		{[]int{math.MaxInt}, api.ErrArg},
		{[]int{1 << 32}, api.ErrArg},
		{[]int{1, 2, -1}, api.ErrArg},
		{[]int{-1, 2, 3}, api.ErrArg},
		{[]int{1, math.MaxInt32 + 1, 3}, api.ErrArg},
		{append(ramp(999), -1), api.ErrArg},
		{append(ramp(1000), -1), api.ErrSize}, // ahead of ErrArg
		{append([]int{-1}, ramp(1000)...), api.ErrSize},
	} {
		b, err := wire.Ints(c.l)
		wantBytes(t, c.l, b, err, nil, c.err)
	}
}

// P4.3
func TestTakeIntsErrors(t *testing.T) {
	over := number(math.MaxInt32 + 1)
	for _, c := range []struct {
		b   []byte
		err api.Errno
	}{
		// The count.
		{nil, api.ErrShort},
		{[]byte{129}, api.ErrShort},
		{[]byte{129, 0, 7}, api.ErrForm},
		{high(10), api.ErrForm},
		{join(high(9), []byte{2}), api.ErrRange}, // ahead of ErrSize
		{join(high(9), []byte{0}), api.ErrForm},  // ahead of ErrSize
		{[]byte{233, 135, 0}, api.ErrForm},       // 1001, but not its varint
		{[]byte{233, 7}, api.ErrSize},            // 1001, ahead of ErrShort
		{join(number(1001), repeat(0, 1001)), api.ErrSize},
		{join(number(1001), over), api.ErrSize},
		{join(number(1<<32), repeat(0, 2000)), api.ErrSize},
		{join(number(1<<63+1), repeat(0, 2000)), api.ErrSize},
		{join(number(math.MaxUint64), repeat(0, 2000)), api.ErrSize},
		// An element alone.
		{[]byte{1}, api.ErrShort},
		{[]byte{1, 128}, api.ErrShort},
		{[]byte{1, 128, 0}, api.ErrForm},
		{join([]byte{1}, high(10)), api.ErrForm},
		{join([]byte{1}, high(9), []byte{2}), api.ErrRange},
		{join([]byte{1}, over), api.ErrRange},
		{join([]byte{1}, number(1<<32)), api.ErrRange},
		{join([]byte{1}, number(1<<63)), api.ErrRange},
		{join([]byte{1}, number(math.MaxUint64)), api.ErrRange},
		{join([]byte{1}, high(6), []byte{0}), api.ErrForm}, // too great also, but no varint
		// Several: the first in the order of the bytes.
		{[]byte{2, 1}, api.ErrShort},
		{join([]byte{2}, over), api.ErrRange},
		{join([]byte{2}, over, []byte{128, 0}), api.ErrRange},
		{join([]byte{2, 128, 0}, over), api.ErrForm},
		{join([]byte{3, 5}, over, []byte{128}), api.ErrRange},
		{join([]byte{3, 5, 128, 0}, over), api.ErrForm},
		{join([]byte{3, 5, 6}, over), api.ErrRange},
		{[]byte{3, 5, 6, 128}, api.ErrShort},
		{[]byte{3, 5, 6, 128, 0}, api.ErrForm},
		{join(number(1000), repeat(0, 999)), api.ErrShort},
		{join(number(1000), repeat(0, 999), over), api.ErrRange},
	} {
		wantInts(t, c.b, nil, 0, c.err)
	}
	// What follows the list isn't looked at.
	wantInts(t, []byte{0, 128, 0}, nil, 1, api.OK)
	wantInts(t, join([]byte{1, 4}, over), []int{4}, 2, api.OK)
	wantInts(t, join(number(1000), repeat(0, 1001)), make([]int, 1000), 1002, api.OK)
}

// P4.3, and of P4.4 that what was decoded is encoded as the same bytes.
func TestTakeIntsOfAllShortBytes(t *testing.T) {
	see := func(b []byte) {
		l, width, err := modelInts(b)
		wantInts(t, b, l, width, err)
		if err == api.OK {
			c, e := wire.Ints(l)
			wantBytes(t, l, c, e, b[:width], api.OK)
		}
	}
	letters := []byte{0, 1, 2, 3, 127, 128, 255}
	words(letters, 5, see)
	// With four bytes ahead, the fifth decides whether the element is within its range.
	for _, begin := range [][]byte{{1, 255, 255, 255, 255}, {2, 255, 255, 255, 255}, {2, 9, 128, 128, 128, 128}} {
		for v := range 256 {
			words(letters, 2, func(b []byte) { see(join(begin, []byte{byte(v)}, b)) })
		}
	}
}

// P4.4: what was encoded is decoded unchanged, whatever bytes follow it, and a proper prefix with ErrShort.
func TestNumberComesBack(t *testing.T) {
	for _, n := range edges() {
		b := wire.Number(n)
		for _, tail := range tails() {
			wantNumber(t, join(b, tail), n, len(b), api.OK)
		}
		for end := range b {
			wantNumber(t, b[:end], 0, 0, api.ErrShort)
		}
	}
}

// P4.4
func TestTextComesBack(t *testing.T) {
	for length := 1; length <= 16; length++ {
		for from := 0; from+length <= len(allowed); from++ {
			s := allowed[from : from+length]
			b, err := wire.Text(s)
			if err != api.OK {
				t.Fatal(s, err)
			}
			for _, tail := range tails() {
				wantText(t, join(b, tail), s, len(b), api.OK)
			}
			for end := range b {
				wantText(t, b[:end], "", 0, api.ErrShort)
			}
		}
	}
}

// P4.4
func TestIntsComeBack(t *testing.T) {
	lists := [][]int{nil, {0}, {127}, {128}, {0, 0}, ramp(20), ramp(130), ramp(1000)}
	for _, n := range edges() {
		if n <= math.MaxInt32 {
			lists = append(lists, []int{int(n)}, []int{3, int(n), 300})
		}
	}
	for _, l := range lists {
		b, err := wire.Ints(l)
		if err != api.OK {
			t.Fatal(l, err)
		}
		for _, tail := range tails() {
			wantInts(t, join(b, tail), l, len(b), api.OK)
		}
		for end := range b {
			wantInts(t, b[:end], nil, 0, api.ErrShort)
		}
	}
}

// P4.4: encodings that stand behind each other come back one by one.
func TestEncodingsInARow(t *testing.T) {
	name, _ := wire.Text("one_2")
	list, _ := wire.Ints([]int{7, 300, 0})
	b := join(wire.Number(1<<40), name, list, name, wire.Number(0))
	n, width, err := wire.TakeNumber(b)
	if n != 1<<40 || err != api.OK {
		t.Fatal(n, err)
	}
	b = b[width:]
	wantText(t, b, "one_2", len(name), api.OK)
	b = b[len(name):]
	wantInts(t, b, []int{7, 300, 0}, len(list), api.OK)
	b = b[len(list):]
	wantText(t, b, "one_2", len(name), api.OK)
	wantNumber(t, b[len(name):], 0, 1, api.OK)
}

// R3, R4: an answer is the caller's own, and no later call sees what became of it.
func TestAnswersAreNew(t *testing.T) {
	spoil := func(b []byte) {
		for i := range b[:cap(b)] {
			b[:cap(b)][i] = 99
		}
	}
	spoil(wire.Number(300))
	if b := wire.Number(300); !bytes.Equal(b, []byte{172, 2}) {
		t.Error(b)
	}
	first, _ := wire.Text("ab")
	spoil(first)
	b, err := wire.Text("ab")
	wantBytes(t, "ab", b, err, []byte{2, 97, 98}, api.OK)
	given := []int{1, 200}
	first, _ = wire.Ints(given)
	spoil(first)
	b, err = wire.Ints(given)
	wantBytes(t, given, b, err, []byte{2, 1, 200, 1}, api.OK)

	code := []byte{2, 97, 98}
	s, _, _ := wire.TakeText(code)
	spoil(code)
	if s != "ab" {
		t.Error(s)
	}
	code = []byte{2, 1, 200, 1}
	l, _, _ := wire.TakeInts(code)
	spoil(code)
	if !slices.Equal(l, []int{1, 200}) {
		t.Error(l)
	}
}
