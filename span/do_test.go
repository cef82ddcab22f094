package span_test

import (
	"testing"

	"turnbuckle/alu"
	"turnbuckle/api"
	"turnbuckle/span"
)

// P8.3: sums, differences and products, up to where they wrap round and beyond it.
func TestDoOfSumsAndProducts(t *testing.T) {
	for _, c := range []struct {
		op         int
		s, u, want api.Span
	}{
		{api.AluAdd, to(1, 2), to(10, 20), to(11, 22)},
		{api.AluAdd, to(0, high), to(0, high-1), to(0, most)},
		{api.AluAdd, to(1, high), to(1, high-1), to(2, most)},
		{api.AluAdd, to(1, high), to(1, high), to(0, most)},
		{api.AluAdd, to(5, most), to(0, 0), to(5, most)},
		{api.AluAdd, to(5, most), to(1, 1), to(0, most)},
		{api.AluAdd, to(most-1, most), to(most-1, most), to(0, most)},
		{api.AluSub, to(1, 2), to(2, 2), to(0, most)},
		{api.AluSub, to(5, 9), to(1, 5), to(0, 8)},
		{api.AluSub, to(5, 9), to(1, 6), to(0, most)},
		{api.AluSub, to(5, 9), to(0, 4), to(1, 9)},
		{api.AluSub, to(high, most), to(high-1, high), to(0, high)},
		{api.AluSub, to(1, 2), to(3, 4), to(0, most)},
		{api.AluMul, to(2, 3), to(4, 5), to(8, 15)},
		{api.AluMul, to(2, high), to(2, 2), to(0, most)},
		{api.AluMul, to(2, high-1), to(2, 2), to(4, most-1)},
		{api.AluMul, to(2, 1<<32-1), to(3, 1<<32+1), to(6, most)},
		{api.AluMul, to(2, 1<<32), to(3, 1<<32), to(0, most)},
		{api.AluMul, to(1, most), to(0, 0), to(0, 0)},
		{api.AluMul, to(1, most), to(1, 1), to(1, most)},
		{api.AluMul, to(most-1, most), to(most-1, most), to(0, most)},
	} {
		wantDo(t, c.op, c.s, c.u, c.want)
	}
}

// P8.3: quotients and remainders by divisors that are 0, may be 0 and can't be 0.
func TestDoOfQuotientsAndRemainders(t *testing.T) {
	for _, c := range []struct {
		op         int
		s, u, want api.Span
	}{
		{api.AluDiv, to(10, 20), to(0, 5), to(0, 20)},
		{api.AluDiv, to(10, 20), to(0, 0), to(0, 20)},
		{api.AluDiv, to(10, 20), to(1, 5), to(2, 20)},
		{api.AluDiv, to(10, 20), to(2, 5), to(2, 10)},
		{api.AluDiv, to(11, 23), to(3, 4), to(2, 7)},
		{api.AluDiv, to(10, 20), to(21, 30), to(0, 0)},
		{api.AluDiv, to(high, most), to(1, most), to(0, most)},
		{api.AluMod, to(0, 100), to(8, 8), to(0, 7)},
		{api.AluMod, to(3, 5), to(6, 9), to(3, 5)},
		{api.AluMod, to(3, 5), to(5, 9), to(0, 5)},
		{api.AluMod, to(3, 5), to(5, 5), to(0, 4)},
		{api.AluMod, to(3, 5), to(2, 5), to(0, 4)},
		{api.AluMod, to(3, 5), to(2, 6), to(0, 5)},
		{api.AluMod, to(3, 5), to(2, 7), to(0, 5)},
		{api.AluMod, to(3, 5), to(2, 3), to(0, 2)},
		{api.AluMod, to(3, 5), to(0, 0), to(3, 5)},
		{api.AluMod, to(3, 5), to(0, 2), to(0, 5)},
		{api.AluMod, to(3, 5), to(0, 9), to(0, 5)},
		{api.AluMod, to(3, 5), to(1, 1), to(0, 0)},
		{api.AluMod, to(0, most), to(most, most), to(0, most-1)},
		{api.AluMod, to(0, most-1), to(most, most), to(0, most-1)},
		{api.AluMod, to(7, most-1), to(most, most), to(7, most-1)},
	} {
		wantDo(t, c.op, c.s, c.u, c.want)
	}
}

// P8.3: bits, where the bounds end with ones alone.
func TestDoOfBits(t *testing.T) {
	for _, c := range []struct {
		op         int
		s, u, want api.Span
	}{
		{api.AluAnd, to(3, 5), to(0, 9), to(0, 5)},
		{api.AluAnd, to(8, 9), to(0, 3), to(0, 3)},
		{api.AluAnd, to(7, 7), to(7, 9), to(0, 7)},
		{api.AluAnd, to(0, most), to(high, most), to(0, most)},
		{api.AluOr, to(1, 4), to(0, 3), to(1, 7)},
		{api.AluOr, to(2, 4), to(3, 3), to(3, 7)},
		{api.AluOr, to(2, 7), to(3, 7), to(3, 7)},
		{api.AluOr, to(2, 8), to(3, 7), to(3, 15)},
		{api.AluOr, to(0, 1), to(0, 0), to(0, 1)},
		{api.AluOr, to(9, high), to(1, 1), to(9, most)},
		{api.AluOr, to(9, high-1), to(1, 1), to(9, high-1)},
		{api.AluXor, to(1, 4), to(8, 8), to(0, 15)},
		{api.AluXor, to(1, 4), to(2, 3), to(0, 7)},
		{api.AluXor, to(0, 1), to(0, 0), to(0, 1)},
		{api.AluXor, to(0, 2), to(0, 0), to(0, 3)},
		{api.AluXor, to(9, 1<<32), to(1, 1), to(0, 1<<33-1)},
		{api.AluXor, to(high, most), to(high, most), to(0, most)},
	} {
		wantDo(t, c.op, c.s, c.u, c.want)
	}
}

// P8.3: shifts by one distance, also by more than a turn, and by a distance that isn't known.
func TestDoOfShifts(t *testing.T) {
	for _, c := range []struct {
		op         int
		s, u, want api.Span
	}{
		{api.AluShl, to(1, 2), to(65, 65), to(2, 4)},
		{api.AluShl, to(1, 2), to(64, 64), to(1, 2)},
		{api.AluShl, to(1, 2), to(62, 62), to(1<<62, high)},
		{api.AluShl, to(1, 2), to(63, 63), to(0, most)},
		{api.AluShl, to(0, 1), to(most, most), to(0, high)},
		{api.AluShl, to(0, 2), to(63, 63), to(0, most)},
		{api.AluShl, to(1, 3), to(62, 62), to(1<<62, 3<<62)},
		{api.AluShl, to(1, 2), to(0, 1), to(0, most)},
		{api.AluShl, to(1, 1), to(0, 1), to(0, most)},
		{api.AluShl, to(1, 2), to(0, 64), to(0, most)},
		{api.AluShl, to(5, most), to(0, 0), to(5, most)},
		{api.AluShr, to(8, 17), to(2, 2), to(2, 4)},
		{api.AluShr, to(8, 17), to(66, 66), to(2, 4)},
		{api.AluShr, to(8, 17), to(64, 64), to(8, 17)},
		{api.AluShr, to(8, 17), to(0, 2), to(0, 17)},
		{api.AluShr, to(17, 17), to(1, 2), to(0, 17)},
		{api.AluShr, to(8, most), to(63, 63), to(0, 1)},
		{api.AluShr, to(high, most), to(1, 1), to(1<<62, high-1)},
		{api.AluSar, to(8, 17), to(2, 2), to(2, 4)},
		{api.AluSar, to(8, 17), to(0, 2), to(0, 17)},
		{api.AluSar, to(8, high), to(2, 2), to(0, most)},
		{api.AluSar, to(8, high), to(0, 0), to(0, most)},
		{api.AluSar, to(8, high-1), to(2, 2), to(2, 1<<61-1)},
		{api.AluSar, to(8, high-1), to(67, 67), to(1, 1<<60-1)},
		{api.AluSar, to(high, most), to(1, 1), to(0, most)},
		{api.AluSar, to(high, high), to(1, 2), to(0, most)},
		{api.AluSar, to(8, high-1), to(1, 2), to(0, high-1)},
	} {
		wantDo(t, c.op, c.s, c.u, c.want)
	}
}

// P8.3: two single spans give just what two numbers give, also where the table's bounds would be wider.
func TestDoOfSingleSpans(t *testing.T) {
	for _, c := range []struct {
		op         int
		a, b, want uint64
	}{
		{api.AluAdd, 3, 4, 7},
		{api.AluAdd, most, 1, 0},
		{api.AluSub, 3, 4, most},
		{api.AluMul, 1 << 32, 1 << 32, 0},
		{api.AluDiv, 7, 2, 3},
		{api.AluDiv, 7, 0, 0},
		{api.AluMod, 7, 4, 3},
		{api.AluMod, 7, 0, 7},
		{api.AluAnd, 6, 3, 2},
		{api.AluOr, 4, 1, 5},
		{api.AluXor, 0, 0, 0},
		{api.AluXor, 6, 3, 5},
		{api.AluShl, 3, 63, high},
		{api.AluShr, high, 65, 1 << 62},
		{api.AluSar, high, 65, high + 1<<62},
	} {
		wantDo(t, c.op, to(c.a, c.a), to(c.b, c.b), to(c.want, c.want))
	}
	for op := 1; op <= lastOp; op++ {
		for _, a := range ends() {
			for _, b := range ends() {
				v, _ := alu.Do(op, a, b)
				wantDo(t, op, to(a, a), to(b, b), to(v, v))
			}
		}
	}
}

// P8.3: every operation over every two spans of chosen ends, and over all small spans, against the model.
func TestDoAgainstModel(t *testing.T) {
	for _, l := range [][]uint64{ends(), every(to(0, 17)), every(to(high-5, high+5))} {
		all := spans(l)
		for op := 1; op <= lastOp; op++ {
			for _, s := range all {
				for _, u := range all {
					wantDo(t, op, s, u, modelDo(op, s, u))
				}
			}
		}
	}
}

// P8.3: every distance within some turns, over spans whose end is just before where bits are shifted out, and just beyond it.
func TestDoOfEveryDistance(t *testing.T) {
	for op := api.AluShl; op <= api.AluSar; op++ {
		for k := range uint64(200) {
			for _, hi := range []uint64{1, most>>(k%64) - 1, most >> (k % 64), most>>(k%64) + 1, high - 1, most} {
				s := to(min(1, hi), hi)
				wantDo(t, op, s, to(k, k), modelDo(op, s, to(k, k)))
				wantDo(t, op, s, to(k, k+1), modelDo(op, s, to(k, k+1)))
			}
		}
	}
}

// P8.3: Or and Xor go up to ones alone, for each highest bit.
func TestDoOfEveryHighestBit(t *testing.T) {
	for k := range 64 {
		one := uint64(1) << k
		ones := one | (one - 1)
		for _, hi := range []uint64{one, ones, one + (one-1)/2} {
			wantDo(t, api.AluOr, to(0, hi), to(0, 0), to(0, ones))
			wantDo(t, api.AluXor, to(0, hi), to(0, 0), to(0, ones))
			wantDo(t, api.AluOr, to(0, 1), to(hi, hi), to(hi, ones))
			wantDo(t, api.AluXor, to(0, 1), to(hi, hi), to(0, ones))
		}
	}
}

// P8.3, R1: an operation that there isn't, for single spans and others.
func TestDoOfUnknownOperations(t *testing.T) {
	for _, op := range unknown() {
		for _, s := range []api.Span{to(0, 0), to(1, 1), to(0, 5), to(3, high), to(0, most), to(most, most)} {
			for _, u := range []api.Span{to(0, 0), to(2, 2), to(0, 9), to(7, high), to(0, most)} {
				if v, err := span.Do(op, s, u); v != (api.Span{}) || err != api.ErrArg {
					t.Fatalf("Do(%d, %v, %v) = %v, %d; want no span, ErrArg", op, s, u, v, err)
				}
			}
		}
	}
}

// P8.3, R1: a span that isn't valid, on either side, for operations that there are and one that there isn't.
func TestDoOfWrongSpans(t *testing.T) {
	for op := 0; op <= lastOp+1; op++ {
		for _, s := range wrong() {
			for _, u := range append(append(spans(ends()), wrong()...), to(s.Hi, s.Lo)) {
				for _, pair := range [][2]api.Span{{s, u}, {u, s}} {
					if v, err := span.Do(op, pair[0], pair[1]); v != (api.Span{}) || err != api.ErrArg {
						t.Fatalf("Do(%d, %v, %v) = %v, %d; want no span, ErrArg", op, pair[0], pair[1], v, err)
					}
				}
			}
		}
	}
}

// P8.4: what numbers give is in what their spans give: all numbers of small spans at the edges, and some of great ones.
func TestDoHasWhatNumbersGive(t *testing.T) {
	for _, s := range spans(ends()) {
		for _, u := range spans(ends()) {
			wantBounds(t, s, u, some)
		}
	}
	edges := []uint64{0, 60, high - 4, most - 7}
	for _, a := range edges {
		for _, b := range edges {
			for _, s := range spans(every(to(a, a+7))) {
				for _, u := range spans(every(to(b, b+7))) {
					wantBounds(t, s, u, every)
				}
			}
		}
	}
}

// wantBounds holds what two numbers give against what their spans give, for each operation, and ends the test at the first fault.
func wantBounds(t *testing.T, s, u api.Span, numbers func(api.Span) []uint64) {
	t.Helper()
	l, m := numbers(s), numbers(u)
	for op := 1; op <= lastOp; op++ {
		v, err := span.Do(op, s, u)
		if err != api.OK || v.Lo > v.Hi {
			t.Fatalf("Do(%s, %v, %v) = %v, %d", names[op], s, u, v, err)
		}
		for _, a := range l {
			for _, b := range m {
				if n, _ := alu.Do(op, a, b); n < v.Lo || n > v.Hi {
					t.Fatalf("Do(%s, %v, %v) = %v; want it to have %d, from %d and %d", names[op], s, u, v, n, a, b)
				}
			}
		}
	}
}

// P8.4: what spans within others give is within what the others give, for sums, products and joins.
func TestMonotone(t *testing.T) {
	calls := []struct {
		name string
		do   func(s, u api.Span) (api.Span, api.Errno)
	}{
		{"sum", func(s, u api.Span) (api.Span, api.Errno) { return span.Do(api.AluAdd, s, u) }},
		{"product", func(s, u api.Span) (api.Span, api.Errno) { return span.Do(api.AluMul, s, u) }},
		{"join", span.Join},
	}
	nested := nestedPairs(spans([]uint64{0, 1, 2, 1 << 32, high - 1, high, most - 1, most}))
	for _, c := range calls {
		for _, s := range nested {
			for _, u := range nested {
				inner, err := c.do(s[0], u[0])
				outer, outerErr := c.do(s[1], u[1])
				if !span.Within(inner, outer) || err != api.OK || outerErr != api.OK {
					t.Fatalf("%s of %v and %v is %v, not within %v of %v and %v (%d, %d)", c.name, s[0], u[0], inner, outer, s[1], u[1], err, outerErr)
				}
			}
		}
	}
}

// nestedPairs are all pairs of spans of which the first is within the second.
func nestedPairs(l []api.Span) [][2]api.Span {
	var pairs [][2]api.Span
	for _, s := range l {
		for _, u := range l {
			if u.Lo <= s.Lo && s.Hi <= u.Hi {
				pairs = append(pairs, [2]api.Span{s, u})
			}
		}
	}
	return pairs
}
