package branch_test

import (
	"math"
	"math/big"
	"testing"

	"turnbuckle/alu"
	"turnbuckle/api"
	"turnbuckle/branch"
)

const (
	most = math.MaxUint64
	high = 1 << 63
)

// lastCond is written as a number, as the document does: conditions are 1 to 9.
const lastCond = 9

var names = [...]string{"", "eq", "ne", "lt", "le", "gt", "ge", "slt", "sge", "set"}

// answer is what a call answers beside its error.
type answer struct {
	u, v api.Span
	can  bool
}

func to(lo, hi uint64) api.Span {
	return api.Span{Lo: lo, Hi: hi}
}

func possible(u, v api.Span) answer {
	return answer{u, v, true}
}

func impossible() answer {
	return answer{}
}

// ends are numbers around which steps wrap round and signs turn, with their neighbours, and some of no note between.
func ends() []uint64 {
	return []uint64{0, 1, 2, 3, 5, 8, 9, 1<<32 - 1, 1 << 32, high - 2, high - 1, high, high + 1, most - 2, most - 1, most}
}

// spans are all valid spans that begin and end with one of the numbers, which rise.
func spans(l []uint64) []api.Span {
	var all []api.Span
	for i, lo := range l {
		for _, hi := range l[i:] {
			all = append(all, to(lo, hi))
		}
	}
	return all
}

// wrong are spans that end before they begin.
func wrong() []api.Span {
	return []api.Span{to(1, 0), to(2, 1), to(9, 3), to(high, high-1), to(most, 0), to(most, most-1), to(most, high)}
}

// unknown are numbers that name no condition: those next to them, those that would be one if only a part of their bits were asked, and the ends of int.
func unknown() []int {
	l := []int{0, -1, lastCond + 1, lastCond + 2, 100, math.MinInt, math.MaxInt}
	for cond := 1; cond <= lastCond; cond++ {
		l = append(l, -cond, cond+1<<8, cond+1<<16, cond+1<<32, cond+math.MinInt)
	}
	return l
}

// every is all numbers of a span, which must be few.
func every(s api.Span) []uint64 {
	l := []uint64{s.Lo}
	for n := s.Lo; n != s.Hi; {
		n++
		l = append(l, n)
	}
	return l
}

// some are numbers of a span: those at its ends and next to them, in its middle, and those of the other list that are in it.
func some(s api.Span, others []uint64) []uint64 {
	if s.Hi-s.Lo < 8 {
		return every(s)
	}
	l := []uint64{s.Lo, s.Lo + 1, s.Lo + (s.Hi-s.Lo)/2, s.Hi - 1, s.Hi}
	for _, n := range others {
		if n > s.Lo && n < s.Hi {
			l = append(l, n)
		}
	}
	return l
}

func single(s api.Span) bool {
	return s.Hi-s.Lo == 0
}

func whole(n uint64) *big.Int {
	return new(big.Int).SetUint64(n)
}

// next is a number without an end to its bits, some steps on or back.
func next(n uint64, steps int64) *big.Int {
	return new(big.Int).Add(whole(n), big.NewInt(steps))
}

func lesser(a, b *big.Int) *big.Int {
	if a.Cmp(b) < 0 {
		return a
	}
	return b
}

func greater(a, b *big.Int) *big.Int {
	if a.Cmp(b) > 0 {
		return a
	}
	return b
}

// between is what stands between the ends of the one span and those of the other, if in each there is a number.
func between(sLo, sHi, tLo, tHi *big.Int) answer {
	if sLo.Cmp(sHi) > 0 || tLo.Cmp(tHi) > 0 {
		return impossible()
	}
	return possible(to(sLo.Uint64(), sHi.Uint64()), to(tLo.Uint64(), tHi.Uint64()))
}

// modelRefine is the table of the document, a row for each condition and each that does not hold; it expects a condition that there is, and valid spans.
func modelRefine(cond int, s, t api.Span, holds bool) answer {
	if single(s) && single(t) {
		if is, _ := alu.Holds(cond, s.Lo, t.Lo); is != holds {
			return impossible()
		}
		return possible(s, t)
	}
	a, x, b, y := whole(s.Lo), whole(s.Hi), whole(t.Lo), whole(t.Hi)
	switch {
	case cond == 1 && holds, cond == 2 && !holds:
		return between(greater(a, b), lesser(x, y), greater(a, b), lesser(x, y))
	case cond == 2 && holds, cond == 1 && !holds:
		return possible(modelWithout(s, t), modelWithout(t, s))
	case cond == 3 && holds, cond == 6 && !holds:
		return between(a, lesser(x, next(t.Hi, -1)), greater(b, next(s.Lo, 1)), y)
	case cond == 4 && holds, cond == 5 && !holds:
		return between(a, lesser(x, y), greater(b, a), y)
	case cond == 5 && holds, cond == 4 && !holds:
		return between(greater(a, next(t.Lo, 1)), x, b, lesser(y, next(s.Hi, -1)))
	case cond == 6 && holds, cond == 3 && !holds:
		return between(greater(a, b), x, b, lesser(y, x))
	}
	return possible(s, t)
}

func modelWithout(s, t api.Span) api.Span {
	if single(t) && t.Lo == s.Lo {
		return to(s.Lo+1, s.Hi)
	}
	if single(t) && t.Lo == s.Hi {
		return to(s.Lo, s.Hi-1)
	}
	return s
}

// wantRefine ends the test at the first fault, as many thousands can follow it.
func wantRefine(t *testing.T, cond int, s, u api.Span, holds bool, want answer) {
	t.Helper()
	var got answer
	var err api.Errno
	got.u, got.v, got.can, err = branch.Refine(cond, s, u, holds)
	if got != want || err != api.OK {
		t.Fatalf("Refine(%s, %v, %v, %t) = %v, %d; want %v", names[cond], s, u, holds, got, err, want)
	}
}

func wantNoRefine(t *testing.T, cond int, s, u api.Span, holds bool) {
	t.Helper()
	var got answer
	var err api.Errno
	got.u, got.v, got.can, err = branch.Refine(cond, s, u, holds)
	if got != impossible() || err != api.ErrArg {
		t.Fatalf("Refine(%d, %v, %v, %t) = %v, %d; want nothing, ErrArg", cond, s, u, holds, got, err)
	}
}
