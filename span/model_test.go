package span_test

import (
	"math"
	"math/big"
	"testing"

	"turnbuckle/alu"
	"turnbuckle/api"
	"turnbuckle/span"
)

const (
	most = math.MaxUint64
	high = 1 << 63
)

// lastOp is written as a number, as the document does: operations are 1 to 11.
const lastOp = 11

var names = [...]string{"", "add", "sub", "mul", "div", "mod", "and", "or", "xor", "shl", "shr", "sar"}

func to(lo, hi uint64) api.Span {
	return api.Span{Lo: lo, Hi: hi}
}

// ends are numbers around which sums, products, shifts and signs turn.
func ends() []uint64 {
	return []uint64{0, 1, 2, 3, 5, 8, 9, 62, 63, 64, 65, 127, 1<<31 - 1, 1 << 32, 1<<32 + 1, 1 << 62, high - 1, high, high + 1, most - 63, most - 1, most}
}

// spans are all valid spans that begin and end with one of the numbers, which rise.
func spans(l []uint64) []api.Span {
	var all []api.Span
	for i, lo := range l {
		for _, hi := range l[i:] {
			all = append(all, to(lo, hi))
		}
	}
	return all
}

// wrong are spans that end before they begin.
func wrong() []api.Span {
	return []api.Span{to(1, 0), to(2, 1), to(9, 3), to(high, high-1), to(most, 0), to(most, most-1), to(most, high)}
}

// unknown are numbers that name no operation: those next to them, those that would be one if only a part of their bits were asked, and the ends of int.
func unknown() []int {
	l := []int{0, -1, lastOp + 1, lastOp + 2, 100, math.MinInt, math.MaxInt}
	for op := 1; op <= lastOp; op++ {
		l = append(l, -op, op+1<<8, op+1<<16, op+1<<32, op+math.MinInt)
	}
	return l
}

// some are numbers of a span: those at its ends, in its middle, and the powers of two in it with those below them.
func some(s api.Span) []uint64 {
	if s.Hi-s.Lo < 8 {
		return every(s)
	}
	l := []uint64{s.Lo, s.Lo + 1, s.Lo + (s.Hi-s.Lo)/2, s.Hi - 1, s.Hi}
	for k := 0; k < 64; k += 7 {
		for _, n := range []uint64{1<<k - 1, 1 << k} {
			if n > s.Lo && n < s.Hi {
				l = append(l, n)
			}
		}
	}
	return l
}

// every is all numbers of a span, which must be few.
func every(s api.Span) []uint64 {
	l := []uint64{s.Lo}
	for n := s.Lo; n != s.Hi; {
		n++
		l = append(l, n)
	}
	return l
}

func whole(n uint64) *big.Int {
	return new(big.Int).SetUint64(n)
}

// both is a span between two numbers without an end to their bits, or all numbers if one of them isn't a 64-bit number.
func both(lo, hi *big.Int) api.Span {
	if lo.Sign() < 0 || !hi.IsUint64() {
		return to(0, most)
	}
	return to(lo.Uint64(), hi.Uint64())
}

// modelFilled goes from power to power.
func modelFilled(n uint64) uint64 {
	f := uint64(0)
	for f < n {
		f = f*2 + 1
	}
	return f
}

// modelDo is the table of the document, row by row; it expects an operation that there is, and valid spans.
func modelDo(op int, s, t api.Span) api.Span {
	if s.Lo == s.Hi && t.Lo == t.Hi {
		v, _ := alu.Do(op, s.Lo, t.Lo)
		return to(v, v)
	}
	a, b, x, y := whole(s.Lo), whole(t.Lo), whole(s.Hi), whole(t.Hi)
	turn := new(big.Int).Exp(big.NewInt(2), new(big.Int).Mod(b, big.NewInt(64)), nil)
	switch op {
	case 1:
		return both(a.Add(a, b), x.Add(x, y))
	case 2:
		return both(a.Sub(a, y), x.Sub(x, b))
	case 3:
		return both(a.Mul(a, b), x.Mul(x, y))
	case 4:
		if t.Lo == 0 {
			return to(0, s.Hi)
		}
		return both(a.Quo(a, y), x.Quo(x, b))
	case 5:
		return modelMod(s, t)
	case 6:
		return to(0, least(s.Hi, t.Hi))
	case 7:
		return to(s.Lo+t.Lo-least(s.Lo, t.Lo), modelFilled(s.Hi|t.Hi))
	case 8:
		return to(0, modelFilled(s.Hi|t.Hi))
	case 9:
		if t.Lo != t.Hi {
			return to(0, most)
		}
		return both(a.Mul(a, turn), x.Mul(x, turn))
	case 11:
		if s.Hi >= high {
			return to(0, most)
		}
	}
	if t.Lo != t.Hi {
		return to(0, s.Hi)
	}
	return both(a.Quo(a, turn), x.Quo(x, turn))
}

func modelMod(s, t api.Span) api.Span {
	switch {
	case s.Hi < t.Lo:
		return s
	case t.Lo == 0 && t.Hi == 0:
		return s
	case t.Lo == 0:
		return to(0, s.Hi)
	}
	return to(0, least(s.Hi, t.Hi-1))
}

func least(a, b uint64) uint64 {
	if a < b {
		return a
	}
	return b
}

// wantDo ends the test at the first fault, as many thousands can follow it.
func wantDo(t *testing.T, op int, s, u, want api.Span) {
	t.Helper()
	if v, err := span.Do(op, s, u); v != want || err != api.OK {
		t.Fatalf("Do(%s, %v, %v) = %v, %d; want %v", names[op], s, u, v, err, want)
	}
}

func wantSpan(t *testing.T, call string, s, u, v, want api.Span, err, wantErr api.Errno) {
	t.Helper()
	if v != want || err != wantErr {
		t.Errorf("%s(%v, %v) = %v, %d; want %v, %d", call, s, u, v, err, want, wantErr)
	}
}

func wantJoin(t *testing.T, s, u, want api.Span, wantErr api.Errno) {
	t.Helper()
	v, err := span.Join(s, u)
	wantSpan(t, "Join", s, u, v, want, err, wantErr)
}

func wantMeet(t *testing.T, s, u, want api.Span, wantErr api.Errno) {
	t.Helper()
	v, err := span.Meet(s, u)
	wantSpan(t, "Meet", s, u, v, want, err, wantErr)
}
