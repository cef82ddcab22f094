package types_test

import (
	"bytes"
	"math"
	"slices"
	"strings"
	"testing"

	"turnbuckle/api"
	"turnbuckle/types"
)

// wantEncoded asks Bytes for the error, or for the encoding of the model, and then Parse for the list.
func wantEncoded(t *testing.T, l list, err api.Errno) {
	t.Helper()
	given := cloneList(l)
	b, e := types.Bytes(given)
	var want []byte
	if err == api.OK {
		want = modelBytes(l)
	}
	if !bytes.Equal(b, want) || e != err {
		t.Errorf("Bytes(%v) = %v, %d; want %v, %d", l, b, e, want, err)
	}
	if !equalList(given, l) {
		t.Errorf("Bytes changed %v to %v", l, given)
	}
	if err == api.OK {
		wantParse(t, want, l, len(want), api.OK)
	}
}

func wantParse(t *testing.T, b []byte, l list, width int, err api.Errno) {
	t.Helper()
	given := bytes.Clone(b)
	r, w, e := types.Parse(given)
	if !equalList(r, l) || w != width || e != err {
		t.Errorf("Parse(%v) = %v, %d, %d; want %v, %d, %d", b, r, w, e, l, width, err)
	}
	if !bytes.Equal(given, b) {
		t.Errorf("Parse changed %v to %v", b, given)
	}
}

// wantModelParse also asks that what was parsed is encoded as the same bytes.
func wantModelParse(t *testing.T, b []byte) {
	t.Helper()
	l, width, err := modelParse(b)
	wantParse(t, b, l, width, err)
	if err != api.OK {
		return
	}
	if again, e := types.Bytes(l); e != api.OK || !bytes.Equal(again, b[:width]) {
		t.Errorf("%v was parsed as %v, encoded as %v, %d", b[:width], l, again, e)
	}
}

func join(parts ...[]byte) []byte {
	return slices.Concat(parts...)
}

// lists are valid lists, of all kinds of types, of fields and of numbers that a valid list can have.
func lists() []list {
	l := []list{nil, {plain("a")}, {refs("b_9")}, {value("abcdefghijklmnop")}, base(), many(32), many(31)}
	l = append(l, list{plain("a", repeat(12, scalar(2))...), value("v", lock(), ptr(0))})
	full := many(32)
	for i := range full {
		full[i].Fields = repeat(12, ptr(31-i))
	}
	last := many(32)
	last[31] = plain("last", append(repeat(10, scalar(1)), leaf(), scalar(2))...)
	last[0] = value("v", treeOf(31, 10, 11), lock(), ptr(31), scalar(16))
	return append(l, full, last)
}

// P5.3: encodings, byte by byte.
func TestBytes(t *testing.T) {
	for _, c := range []struct {
		l list
		b string
	}{
		{nil, "\x00"},
		{list{}, "\x00"},
		{list{plain("a")}, "\x01\x01a\x01\x00"},
		{list{value("a")}, "\x01\x01a\x01\x01"},
		{list{refs("a")}, "\x01\x01a\x01\x02"},
		{list{plain("a"), refs("bc")}, "\x02\x01a\x01\x00\x02bc\x01\x02"},
		{list{plain("a", scalar(16))}, "\x01\x01a\x06\x00\x01\x10\x00\x00\x00"},
		{list{plain("a"), plain("b", ptr(1), node())}, "\x02\x01a\x01\x00\x01b\x0b\x00\x02\x00\x01\x00\x00\x03\x00\x00\x00\x00"},
		{list{value("a", treeOf(1, 3, 2), lock()), plain("b", node(), node(), scalar(1), leaf())},
			"\x02\x01a\x0b\x01\x06\x00\x01\x03\x02\x07\x00\x00\x00\x00\x01b\x15\x00\x03\x00\x00\x00\x00\x03\x00\x00\x00\x00\x01\x01\x00\x00\x00\x04\x00\x00\x00\x00"},
		{list{value("a", listOf(1, 2), lock()), plain("b", leaf(), scalar(1), node())},
			"\x02\x01a\x0b\x01\x05\x00\x01\x02\x00\x07\x00\x00\x00\x00\x01b\x10\x00\x04\x00\x00\x00\x00\x01\x01\x00\x00\x00\x03\x00\x00\x00\x00"},
	} {
		b, err := types.Bytes(c.l)
		if string(b) != c.b || err != api.OK {
			t.Errorf("Bytes(%v) = %q, %d; want %q", c.l, b, err, c.b)
		}
		wantParse(t, []byte(c.b), c.l, len(c.b), api.OK)
	}
}

// P5.3: Bytes has the error of Check, also for numbers, names and lists that an encoding can't bear.
func TestBytesErrors(t *testing.T) {
	for _, c := range []struct {
		l   list
		err api.Errno
	}{
		{many(33), api.ErrSize},
		{make(list, 2000), api.ErrSize},
		{list{plain("")}, api.ErrForm},
		{list{plain("a b")}, api.ErrForm},
		{list{plain(strings.Repeat("a", 17))}, api.ErrForm},
		{list{plain("a"), plain("a")}, api.ErrForm},
		{list{plain("a", repeat(13, scalar(1))...)}, api.ErrSize},
		{list{plain("a", repeat(300, scalar(-1))...)}, api.ErrSize},
		{list{{Name: "a", Value: true, Refs: true}}, api.ErrKind},
		{list{value("a", lock(), lock())}, api.ErrLock},
		{list{plain("a", scalar(16), scalar(16))}, api.ErrSize},
		{list{refs("a", ptr(0))}, api.ErrKind},
	} {
		wantEncoded(t, c.l, c.err)
	}
	for _, n := range outside() {
		wantEncoded(t, with(item, scalar(n)), api.ErrRange)
		wantEncoded(t, with(item, ptr(n)), api.ErrRange)
		wantEncoded(t, with(item, api.Field{Kind: n}), api.ErrKind)
		wantEncoded(t, with(box, listOf(item, n)), api.ErrKind)
		wantEncoded(t, with(box, treeOf(item, 2, n)), api.ErrKind)
		wantEncoded(t, with(item, api.Field{Kind: api.FieldPtr, Len: n}), api.ErrKind)
	}
}

// P5.3: the errors of Parse, in the order of the bytes.
func TestParseErrors(t *testing.T) {
	a, high := encodeType(plain("a")), bytes.Repeat([]byte{200}, 9)
	wrong := encodeType(plain("w", scalar(0))) // a type that only Check refuses
	for _, c := range []struct {
		b   []byte
		err api.Errno
	}{
		// The count.
		{nil, api.ErrShort},
		{[]byte{}, api.ErrShort},
		{[]byte{129}, api.ErrShort},
		{[]byte{129, 0}, api.ErrForm},
		{join(high, high), api.ErrForm},
		{join(high, []byte{2}), api.ErrRange}, // ahead of ErrSize
		{[]byte{161, 0}, api.ErrForm},         // 33, but not its varint
		{[]byte{33}, api.ErrSize},             // ahead of ErrShort
		{join([]byte{33}, bytes.Repeat(a, 33)), api.ErrSize},
		{[]byte{33, 0}, api.ErrSize},
		{number(256), api.ErrSize},
		{number(1 << 32), api.ErrSize},
		{number(1<<32 + 1), api.ErrSize},
		{number(math.MaxInt), api.ErrSize},
		{join(bytes.Repeat([]byte{255}, 9), []byte{1}), api.ErrSize},
		{[]byte{32}, api.ErrShort},
		// A type's name.
		{[]byte{1}, api.ErrShort},
		{[]byte{1, 128}, api.ErrShort},
		{[]byte{1, 129, 0, 'a'}, api.ErrForm},
		{join([]byte{1}, high, []byte{2}), api.ErrRange},
		{[]byte{1, 0}, api.ErrForm},
		{[]byte{1, 17}, api.ErrForm},
		{[]byte("\x01\x02a"), api.ErrShort},
		{[]byte("\x01\x01-"), api.ErrForm}, // ahead of the numbers that are missing
		// Its numbers.
		{[]byte("\x01\x01a"), api.ErrShort},
		{[]byte("\x01\x01a\x80"), api.ErrShort},
		{[]byte("\x01\x01a\x81\x00"), api.ErrForm},
		{join([]byte("\x01\x01a"), number(1001)), api.ErrSize},
		{join([]byte("\x01\x01a"), high, []byte{2}), api.ErrRange},
		{[]byte("\x01\x01a\x01"), api.ErrShort},
		{[]byte("\x01\x01a\x06\x00\x01"), api.ErrShort},
		{[]byte("\x01\x01a\x01\x80\x00"), api.ErrForm},
		{join([]byte("\x01\x01a\x01"), number(math.MaxInt32+1)), api.ErrRange}, // ahead of the flags' ErrForm
		{join([]byte("\x01\x01a\x02\x00"), number(math.MaxInt32+1)), api.ErrRange},
		{join([]byte("\x01\x01a\x06\x00\x01"), number(math.MaxInt32+1)), api.ErrRange},
		{[]byte("\x01\x01a\x02\x09"), api.ErrShort}, // ahead of how many there are and of the flags
		// How many numbers there are, and the flags.
		{[]byte("\x01\x01a\x00"), api.ErrForm},
		{join([]byte("\x01\x01a"), ints(0, 1)), api.ErrForm},
		{join([]byte("\x01\x01a"), ints(0, 1, 1, 0, 0)), api.ErrForm},
		{join([]byte("\x01\x01a"), ints(0, 1, 1, 0, 0, 0, 1)), api.ErrForm},
		{join([]byte("\x01\x01a"), ints(1, 1, 0, 0, 0)), api.ErrForm},
		{join([]byte("\x01\x01a"), ints(make([]int, 1000)...)), api.ErrForm},
		{join([]byte("\x01\x01a"), ints(4)), api.ErrForm},
		{join([]byte("\x01\x01a"), ints(5)), api.ErrForm},
		{join([]byte("\x01\x01a"), ints(256)), api.ErrForm},
		{join([]byte("\x01\x01a"), ints(math.MaxInt32)), api.ErrForm},
		{join([]byte("\x01\x01a"), ints(4, 1, 0, 0, 0, 0)), api.ErrForm}, // ahead of Check
		// Check, after the last type.
		{join([]byte("\x01\x01a"), ints(3)), api.ErrKind},
		{join([]byte("\x01\x01a"), ints(make([]int, 996)...)), api.ErrSize},
		{join([]byte("\x01\x01a"), ints(0, 1, math.MaxInt32, 0, 0, 0)), api.ErrRange},
		{join([]byte("\x01\x01a"), ints(0, math.MaxInt32, 0, 0, 0, 0)), api.ErrKind},
		{modelBytes(list{plain("a"), plain("a")}), api.ErrForm},
		{modelBytes(list{plain("a", repeat(13, scalar(1))...)}), api.ErrSize},
		{modelBytes(list{value("a", lock(), lock())}), api.ErrLock},
		{modelBytes(list{plain("a", scalar(16), scalar(16))}), api.ErrSize},
		{modelBytes(list{plain("a", ptr(1))}), api.ErrRange},
		{modelBytes(list{plain("a"), refs("b", ptr(1))}), api.ErrKind},
		// Several types: the first in the order of the bytes, and Check behind them all.
		{join([]byte{2}, a), api.ErrShort},
		{join([]byte{2}, a, []byte{0}), api.ErrForm},
		{join([]byte{2}, a, []byte("\x01b"), ints(4)), api.ErrForm},
		{join([]byte{2}, a, []byte("\x01b"), number(1001)), api.ErrSize},
		{join([]byte{2}, a, []byte("\x01b\x01"), number(math.MaxInt32+1)), api.ErrRange},
		{join([]byte{2, 0}, high, []byte{2}), api.ErrForm},
		{join([]byte("\x02\x01a"), ints(4), high, []byte{2}), api.ErrForm},
		{join([]byte("\x02\x01a"), number(1001), []byte{0}), api.ErrSize},
		{join([]byte{2}, wrong), api.ErrShort},
		{join([]byte{2}, wrong, []byte{0}), api.ErrForm},
		{join([]byte{2}, wrong, []byte("\x01b"), number(1001)), api.ErrSize},
		{join([]byte{2}, wrong, a), api.ErrRange},
		{join([]byte{3}, wrong, a, a), api.ErrRange},
		{join([]byte{3}, a, a, wrong), api.ErrForm},
	} {
		wantParse(t, c.b, nil, 0, c.err)
		_, _, err := modelParse(c.b)
		if err != c.err {
			t.Errorf("the model parses %v with %d; want %d", c.b, err, c.err)
		}
	}
}

// P5.3, P5.4: what was encoded comes back unchanged, whatever bytes follow it, and a proper prefix has the error ErrShort.
func TestParseOfWhatWasEncoded(t *testing.T) {
	tails := [][]byte{nil, {0}, {1}, {127}, {128}, {255}, {128, 0}, []byte("\x01a\x01\x00"), bytes.Repeat([]byte{255}, 20)}
	for _, l := range lists() {
		b, err := types.Bytes(l)
		if err != api.OK || !bytes.Equal(b, modelBytes(l)) {
			t.Fatalf("Bytes(%v) = %v, %d", l, b, err)
		}
		for _, tail := range tails {
			wantParse(t, join(b, tail), l, len(b), api.OK)
		}
		wantParse(t, join(b, b), l, len(b), api.OK)
		for end := range b {
			wantParse(t, b[:end], nil, 0, api.ErrShort)
		}
	}
}

// P5.3: each byte of encodings, replaced by each other byte.
func TestParseOfOneByteChanged(t *testing.T) {
	for _, l := range []list{{plain("a"), refs("bc", ptr(0))}, base(), base()[:2], {value("v", treeOf(1, 0, 1), lock()), plain("b", leaf(), scalar(3))}} {
		b := modelBytes(l)
		for at := range b {
			for v := range 256 {
				changed := bytes.Clone(b)
				changed[at] = byte(v)
				wantModelParse(t, changed)
			}
		}
	}
}

// P5.3: all short sequences of chosen bytes, alone and behind the beginning of an encoding.
func TestParseOfAllShortBytes(t *testing.T) {
	letters := []byte{0, 1, 2, 3, 4, 6, 'a', 'b', 128}
	words(letters, 5, func(b []byte) {
		wantModelParse(t, b)
		wantModelParse(t, join([]byte("\x01\x01a"), b))
		wantModelParse(t, join([]byte("\x02\x01a\x01\x00\x01b"), b))
		wantModelParse(t, join([]byte("\x01\x01a\x06\x00"), b))
		wantModelParse(t, join([]byte("\x01\x01a\x06\x01"), b))
	})
}

// words calls see with each sequence of at most n of the given bytes.
func words(letters []byte, n int, see func([]byte)) {
	var extend func(b []byte)
	extend = func(b []byte) {
		see(b)
		if len(b) == n {
			return
		}
		for _, v := range letters {
			extend(append(slices.Clip(b), v))
		}
	}
	extend(nil)
}

// R3, R4: an answer is the caller's own; no two lists of it share memory, and no later call sees what became of it.
func TestAnswersAreNew(t *testing.T) {
	l := base()
	b, _ := types.Bytes(l)
	given := bytes.Clone(b)
	first, _, _ := types.Parse(given)
	clear(given)
	if !equalList(first, l) {
		t.Errorf("parsed types changed with the bytes: %v", first)
	}
	for i := range first {
		f := first[i].Fields[:cap(first[i].Fields)]
		clear(f)
		first[i].Fields = append(first[i].Fields, api.Field{Kind: 9})
		for j := i + 1; j < len(first); j++ {
			if !equalType(first[j], l[j]) {
				t.Errorf("type %d changed with type %d: %v", j, i, first[j])
			}
		}
	}
	wantParse(t, b, l, len(b), api.OK)
	clear(b[:cap(b)])
	wantEncoded(t, l, api.OK)
	places, _, _ := types.Layout(l[0])
	clear(places[:cap(places)])
	wantLayout(t, l[0], []int{8, 24, 40, 64}, 72, api.OK)
}
