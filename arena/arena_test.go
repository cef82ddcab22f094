package arena_test

import (
	"bytes"
	"math"
	"testing"

	"turnbuckle/api"
	"turnbuckle/arena"
)

const pattern = uint64(0xf1e2d3c4b5a69788)

// extremes are offsets and sizes whose sums with others overflow.
var extremes = []int{math.MinInt, math.MinInt + 1, -9, -8, -1, math.MaxInt - 8, math.MaxInt - 7, math.MaxInt - 1, math.MaxInt}

func made(t *testing.T, n int) *arena.Arena {
	t.Helper()
	a, err := arena.New(n)
	if err != api.OK || a == nil {
		t.Fatalf("New(%d): %v, %v", n, a, err)
	}
	return a
}

// counted is an arena whose bytes all differ from their neighbours and from 0.
func counted(t *testing.T, n int) *arena.Arena {
	t.Helper()
	a := made(t, n)
	for i := range n {
		if err := a.Store(i, 1, uint64(i%251+1)); err != api.OK {
			t.Fatalf("Store(%d, 1): %v", i, err)
		}
	}
	return a
}

// all reads byte by byte, so that what it answers is apart from the arena even if Bytes isn't.
func all(t *testing.T, a *arena.Arena) []byte {
	t.Helper()
	b := make([]byte, a.Len())
	for i := range b {
		v, err := a.Load(i, 1)
		if err != api.OK || v > 255 {
			t.Fatalf("Load(%d, 1): %d, %v", i, v, err)
		}
		b[i] = byte(v)
	}
	return b
}

// wanted is the error that P1.3 asks for, or P1.2 for a width; the sum is taken where it can't overflow.
func wanted(length, at, n int) api.Errno {
	switch {
	case n < 0:
		return api.ErrArg
	case at < 0:
		return api.ErrRange
	case uint64(at)+uint64(n) > uint64(length):
		return api.ErrRange
	}
	return api.OK
}

func isWidth(n int) bool { return n == 1 || n == 2 || n == 4 || n == 8 }

// numbersUpTo are the numbers from -3 to n, and the extremes.
func numbersUpTo(n int) []int {
	var l []int
	for i := -3; i <= n; i++ {
		l = append(l, i)
	}
	return append(l, extremes...)
}

// P1.1
func TestNewHasItsBytesAllZero(t *testing.T) {
	for _, n := range []int{0, 1, 2, 7, 8, 16, 511, 512, 513, 65535, 65536} {
		a := made(t, n)
		if a.Len() != n {
			t.Errorf("New(%d): Len %d", n, a.Len())
		}
		if !bytes.Equal(all(t, a), make([]byte, n)) {
			t.Errorf("New(%d): a byte isn't 0", n)
		}
		if n > 0 {
			if err := a.Store(n-1, 1, 1); err != api.OK {
				t.Errorf("New(%d): the last byte: %v", n, err)
			}
		}
		if err := a.Store(n, 1, 1); err != api.ErrRange {
			t.Errorf("New(%d): behind the last byte: %v", n, err)
		}
	}
}

// P1.1, wrong inputs
func TestNewRefusesOtherSizes(t *testing.T) {
	for _, n := range []int{-1, -65536, math.MinInt, 65537, 65536 + 512, 1 << 20, 1 << 32, math.MaxInt} {
		if a, err := arena.New(n); a != nil || err != api.ErrArg {
			t.Errorf("New(%d): %v, %v", n, a, err)
		}
	}
}

// P1.1: Len stays, whatever is done.
func TestLenStays(t *testing.T) {
	a := made(t, 16)
	a.Store(0, 8, pattern)
	a.Store(16, 1, 1)
	a.Fill(0, 16, 255)
	a.Fill(0, 17, 255)
	a.Bytes(0, 16)
	if a.Len() != 16 {
		t.Errorf("Len %d", a.Len())
	}
}

// R4: what is stored in one arena isn't seen in another.
func TestArenasAreApart(t *testing.T) {
	a, b := made(t, 16), made(t, 16)
	a.Fill(0, 16, 9)
	c := made(t, 16)
	if !bytes.Equal(all(t, b), make([]byte, 16)) || !bytes.Equal(all(t, c), make([]byte, 16)) {
		t.Error("a store reached another arena")
	}
}

// P1.1, P1.2, P1.3: nil, or not created by New.
func TestArenaNotMadeByNewIsEmpty(t *testing.T) {
	var none *arena.Arena
	var plain arena.Arena
	for name, a := range map[string]*arena.Arena{"nil": none, "plain": &plain, "new": new(arena.Arena), "made of 0": made(t, 0)} {
		if a.Len() != 0 {
			t.Errorf("%s: Len %d", name, a.Len())
		}
		for _, at := range numbersUpTo(9) {
			for _, n := range numbersUpTo(9) {
				checkCalls(t, name, a, 0, at, n)
			}
		}
		if a.Len() != 0 {
			t.Errorf("%s: Len %d at the end", name, a.Len())
		}
	}
}

// checkCalls asks each call for its error, and for zero results beside it.
func checkCalls(t *testing.T, name string, a *arena.Arena, length, at, n int) {
	t.Helper()
	want := wanted(length, at, n)
	b, err := a.Bytes(at, n)
	if err != want || err != api.OK && len(b) != 0 || err == api.OK && len(b) != n {
		t.Errorf("%s: Bytes(%d, %d): %v, %v, want %v", name, at, n, b, err, want)
	}
	if err := a.Fill(at, n, 7); err != want {
		t.Errorf("%s: Fill(%d, %d): %v, want %v", name, at, n, err, want)
	}
	if !isWidth(n) {
		want = api.ErrArg
	}
	v, err := a.Load(at, n)
	if err != want || err != api.OK && v != 0 {
		t.Errorf("%s: Load(%d, %d): %d, %v, want %v", name, at, n, v, err, want)
	}
	if err := a.Store(at, n, pattern); err != want {
		t.Errorf("%s: Store(%d, %d): %v, want %v", name, at, n, err, want)
	}
}

// P1.2, P1.3: every offset and size about an arena's ends, and those that overflow.
func TestErrorsOfAllCalls(t *testing.T) {
	for _, length := range []int{0, 1, 2, 3, 7, 8, 9, 16} {
		for _, at := range numbersUpTo(length + 3) {
			for _, n := range numbersUpTo(length + 9) {
				checkCalls(t, "an arena", made(t, length), length, at, n)
			}
		}
	}
	for _, at := range []int{65527, 65528, 65529, 65535, 65536, 65537} {
		for _, n := range []int{0, 1, 2, 4, 8, 9, 65536, 65537} {
			checkCalls(t, "the largest", made(t, 65536), 65536, at, n)
		}
	}
}

// P1.2: numbers that aren't widths, among them those that are widths in their low bits.
func TestWidths(t *testing.T) {
	a := counted(t, 64)
	before := all(t, a)
	for n := -70; n <= 70; n++ {
		if isWidth(n) {
			continue
		}
		if v, err := a.Load(0, n); v != 0 || err != api.ErrArg {
			t.Errorf("Load(0, %d): %d, %v", n, v, err)
		}
		if err := a.Store(0, n, pattern); err != api.ErrArg {
			t.Errorf("Store(0, %d): %v", n, err)
		}
	}
	for _, n := range append([]int{256 + 1, 1<<32 + 8, math.MinInt + 4}, extremes...) {
		if v, err := a.Load(0, n); v != 0 || err != api.ErrArg {
			t.Errorf("Load(0, %d): %d, %v", n, v, err)
		}
		if err := a.Store(0, n, pattern); err != api.ErrArg {
			t.Errorf("Store(0, %d): %v", n, err)
		}
	}
	if !bytes.Equal(all(t, a), before) {
		t.Error("a refused store changed bytes")
	}
}

// P1.2, P1.3: of two errors, the first is told.
func TestFirstErrorIsTold(t *testing.T) {
	a := made(t, 16)
	for _, at := range append([]int{-1, 16, 17}, extremes...) {
		for _, n := range []int{-1, math.MinInt} {
			if b, err := a.Bytes(at, n); len(b) != 0 || err != api.ErrArg {
				t.Errorf("Bytes(%d, %d): %v, %v", at, n, b, err)
			}
			if err := a.Fill(at, n, 1); err != api.ErrArg {
				t.Errorf("Fill(%d, %d): %v", at, n, err)
			}
		}
		for _, width := range []int{-1, 0, 3, 16} {
			if v, err := a.Load(at, width); v != 0 || err != api.ErrArg {
				t.Errorf("Load(%d, %d): %d, %v", at, width, v, err)
			}
			if err := a.Store(at, width, 1); err != api.ErrArg {
				t.Errorf("Store(%d, %d): %v", at, width, err)
			}
		}
	}
}

// R1: a refused call changes nothing, not even the bytes that would have been in range.
func TestRefusedCallsChangeNothing(t *testing.T) {
	a := counted(t, 16)
	before := all(t, a)
	for _, at := range numbersUpTo(19) {
		for _, n := range numbersUpTo(25) {
			if wanted(16, at, n) != api.OK {
				a.Fill(at, n, 0)
			}
			if wanted(16, at, n) != api.OK || !isWidth(n) {
				a.Store(at, n, pattern)
			}
		}
	}
	if !bytes.Equal(all(t, a), before) {
		t.Errorf("%v became %v", before, all(t, a))
	}
}

// P1.2, P1.4, P2: every width at every offset; the lowest byte first; other bytes stay.
func TestStoreThenLoad(t *testing.T) {
	for _, width := range []int{1, 2, 4, 8} {
		for at := 0; at+width <= 20; at++ {
			for _, v := range []uint64{0, 1, 0x80, 0xff, 0x100, 1 << 31, 1<<32 - 1, 1 << 63, pattern, math.MaxUint64} {
				checkStore(t, at, width, v)
			}
		}
	}
}

func checkStore(t *testing.T, at, width int, v uint64) {
	t.Helper()
	a := counted(t, 20)
	want := all(t, a)
	reduced := v
	for i := 0; i < width; i++ {
		want[at+i] = byte(v >> (8 * uint(i)))
	}
	if width < 8 {
		reduced = v % (1 << (8 * uint(width)))
	}
	if err := a.Store(at, width, v); err != api.OK {
		t.Errorf("Store(%d, %d, %#x): %v", at, width, v, err)
	}
	if got := all(t, a); !bytes.Equal(got, want) {
		t.Errorf("Store(%d, %d, %#x): %v, want %v", at, width, v, got, want)
	}
	if got, err := a.Load(at, width); got != reduced || err != api.OK {
		t.Errorf("Load(%d, %d): %#x, %v, want %#x", at, width, got, err, reduced)
	}
	if got := all(t, a); !bytes.Equal(got, want) {
		t.Errorf("Load(%d, %d) changed bytes", at, width)
	}
}

// P1.4: what was stored last is what is loaded.
func TestLastStoreCounts(t *testing.T) {
	a := made(t, 16)
	a.Store(0, 8, math.MaxUint64)
	a.Store(2, 4, 0x11223344)
	a.Store(3, 1, 0x55)
	if v, err := a.Load(0, 8); v != 0xffff11225544ffff || err != api.OK {
		t.Errorf("%#x, %v", v, err)
	}
	a.Store(0, 8, 0)
	if v, err := a.Load(2, 4); v != 0 || err != api.OK {
		t.Errorf("%#x, %v", v, err)
	}
}

// P1.4: the low half, then the high half.
func TestHalves(t *testing.T) {
	a := counted(t, 24)
	for _, w := range []int{1, 2, 4} {
		for at := 0; at+2*w <= 24; at++ {
			low, e1 := a.Load(at, w)
			high, e2 := a.Load(at+w, w)
			both, e3 := a.Load(at, 2*w)
			if e1 != api.OK || e2 != api.OK || e3 != api.OK {
				t.Errorf("at %d, width %d: %v, %v, %v", at, w, e1, e2, e3)
			}
			if both != low+high<<(8*uint(w)) {
				t.Errorf("at %d: %#x isn't %#x and then %#x", at, both, low, high)
			}
		}
	}
}

// P1.3: every part, and no byte beside it.
func TestFill(t *testing.T) {
	for at := 0; at <= 20; at++ {
		for n := 0; at+n <= 20; n++ {
			for _, v := range []byte{0, 1, 128, 255} {
				a := counted(t, 20)
				want := all(t, a)
				for i := at; i < at+n; i++ {
					want[i] = v
				}
				if err := a.Fill(at, n, v); err != api.OK {
					t.Errorf("Fill(%d, %d, %d): %v", at, n, v, err)
				}
				if got := all(t, a); !bytes.Equal(got, want) {
					t.Errorf("Fill(%d, %d, %d): %v", at, n, v, got)
				}
			}
		}
	}
}

// P1.3
func TestBytes(t *testing.T) {
	a := counted(t, 20)
	for at := 0; at <= 20; at++ {
		for n := 0; at+n <= 20; n++ {
			var want []byte
			for i := at; i < at+n; i++ {
				want = append(want, byte(i+1))
			}
			if b, err := a.Bytes(at, n); err != api.OK || !bytes.Equal(b, want) {
				t.Errorf("Bytes(%d, %d): %v, %v", at, n, b, err)
			}
		}
	}
}

// P1.3: the largest arena, whole.
func TestWholeOfTheLargest(t *testing.T) {
	a := made(t, 65536)
	if err := a.Fill(0, 65536, 3); err != api.OK {
		t.Error(err)
	}
	if !bytes.Equal(all(t, a), bytes.Repeat([]byte{3}, 65536)) {
		t.Error("a byte isn't 3")
	}
}

// P1.3: at offset Len, n = 0 is valid; behind it, it isn't.
func TestNoBytesAtTheEnd(t *testing.T) {
	for _, n := range []int{0, 1, 16, 65536} {
		a := counted(t, n)
		before := all(t, a)
		if err := a.Fill(n, 0, 9); err != api.OK {
			t.Errorf("Fill(%d, 0): %v", n, err)
		}
		if b, err := a.Bytes(n, 0); len(b) != 0 || err != api.OK {
			t.Errorf("Bytes(%d, 0): %v, %v", n, b, err)
		}
		if err := a.Fill(n+1, 0, 9); err != api.ErrRange {
			t.Errorf("Fill(%d, 0): %v", n+1, err)
		}
		if b, err := a.Bytes(n+1, 0); len(b) != 0 || err != api.ErrRange {
			t.Errorf("Bytes(%d, 0): %v, %v", n+1, b, err)
		}
		if !bytes.Equal(all(t, a), before) {
			t.Errorf("length %d: bytes changed", n)
		}
	}
}

// P1.3, R3: the copy and the arena don't share memory, nor do two copies.
func TestBytesIsACopy(t *testing.T) {
	a := counted(t, 8)
	before := all(t, a)
	one, _ := a.Bytes(2, 4)
	two, _ := a.Bytes(2, 4)
	clear(one)
	_ = append(one[:0], 99, 99, 99, 99, 99, 99)
	if !bytes.Equal(all(t, a), before) {
		t.Error("a change of the copy reached the arena")
	}
	if !bytes.Equal(two, before[2:6]) {
		t.Error("a change of a copy reached another")
	}
	a.Fill(0, 8, 77)
	a.Store(2, 4, 0)
	if !bytes.Equal(two, before[2:6]) {
		t.Error("a store reached a copy")
	}
}

// The chapter's examples.
func TestExamples(t *testing.T) {
	a := made(t, 16)
	if err := a.Store(4, 4, 305419896); err != api.OK {
		t.Error(err)
	}
	if b, err := a.Bytes(4, 4); !bytes.Equal(b, []byte{120, 86, 52, 18}) || err != api.OK {
		t.Error(b, err)
	}
	if v, err := a.Load(4, 2); v != 22136 || err != api.OK {
		t.Error(v, err)
	}
	if v, err := a.Load(15, 2); v != 0 || err != api.ErrRange {
		t.Error(v, err)
	}
	if v, err := a.Load(0, 3); v != 0 || err != api.ErrArg {
		t.Error(v, err)
	}
}
