package branch_test

import (
	"testing"

	"turnbuckle/alu"
	"turnbuckle/api"
	"turnbuckle/branch"
)

// row is a call, and what it has to answer for a condition that holds.
type row struct {
	s, t api.Span
	want answer
}

// wantRows asks each row of a condition, and with the false of its Not.
func wantRows(t *testing.T, cond, not int, rows []row) {
	t.Helper()
	for _, r := range rows {
		wantRefine(t, cond, r.s, r.t, true, r.want)
		wantRefine(t, not, r.s, r.t, false, r.want)
	}
}

// wantExchanged asks each row with both sides exchanged.
func wantExchanged(t *testing.T, cond, not int, rows []row) {
	t.Helper()
	for _, r := range rows {
		want := answer{r.want.v, r.want.u, r.want.can}
		wantRefine(t, cond, r.t, r.s, true, want)
		wantRefine(t, not, r.t, r.s, false, want)
	}
}

// P9.1: the chapter's examples.
func TestExamples(t *testing.T) {
	wantRefine(t, api.CondLt, to(0, 100), to(8, 8), true, possible(to(0, 7), to(8, 8)))
	wantRefine(t, api.CondLt, to(0, 100), to(8, 8), false, possible(to(8, 100), to(8, 8)))
	wantRefine(t, api.CondNe, to(0, 9), to(0, 0), true, possible(to(1, 9), to(0, 0)))
	wantRefine(t, api.CondEq, to(1, 2), to(3, 4), true, impossible())
}

// P9.1: equal numbers are in both spans; neighbours have none, and one common end is enough.
func TestEqual(t *testing.T) {
	rows := []row{
		{to(0, 9), to(5, 12), possible(to(5, 9), to(5, 9))},
		{to(5, 12), to(0, 9), possible(to(5, 9), to(5, 9))},
		{to(0, 9), to(4, 6), possible(to(4, 6), to(4, 6))},
		{to(4, 6), to(4, 6), possible(to(4, 6), to(4, 6))},
		{to(0, 9), to(3, 3), possible(to(3, 3), to(3, 3))},
		{to(3, 3), to(0, 9), possible(to(3, 3), to(3, 3))},
		{to(0, 5), to(5, 9), possible(to(5, 5), to(5, 5))},
		{to(0, 5), to(6, 9), impossible()},
		{to(6, 9), to(0, 5), impossible()},
		{to(1, 2), to(3, 3), impossible()},
		{to(0, 0), to(1, most), impossible()},
		{to(0, 0), to(0, most), possible(to(0, 0), to(0, 0))},
		{to(0, most), to(most, most), possible(to(most, most), to(most, most))},
		{to(0, most), to(high, most), possible(to(high, most), to(high, most))},
	}
	wantRows(t, api.CondEq, api.CondNe, rows)
	wantExchanged(t, api.CondEq, api.CondNe, rows)
}

// P9.1: a single number is taken from an end of the other span, from nowhere else; of two spans with more numbers nothing is taken.
func TestNotEqual(t *testing.T) {
	rows := []row{
		{to(0, 9), to(0, 0), possible(to(1, 9), to(0, 0))},
		{to(0, 9), to(9, 9), possible(to(0, 8), to(9, 9))},
		{to(0, 9), to(1, 1), possible(to(0, 9), to(1, 1))},
		{to(0, 9), to(8, 8), possible(to(0, 9), to(8, 8))},
		{to(0, 9), to(10, 10), possible(to(0, 9), to(10, 10))},
		{to(4, 5), to(4, 4), possible(to(5, 5), to(4, 4))},
		{to(4, 5), to(5, 5), possible(to(4, 4), to(5, 5))},
		{to(4, 5), to(3, 3), possible(to(4, 5), to(3, 3))},
		{to(4, 5), to(6, 6), possible(to(4, 5), to(6, 6))},
		{to(4, 5), to(4, 5), possible(to(4, 5), to(4, 5))},
		{to(4, 5), to(5, 6), possible(to(4, 5), to(5, 6))},
		{to(4, 9), to(0, 4), possible(to(4, 9), to(0, 4))},
		{to(0, most), to(0, 0), possible(to(1, most), to(0, 0))},
		{to(0, most), to(most, most), possible(to(0, most-1), to(most, most))},
		{to(most-1, most), to(most, most), possible(to(most-1, most-1), to(most, most))},
	}
	wantRows(t, api.CondNe, api.CondEq, rows)
	wantExchanged(t, api.CondNe, api.CondEq, rows)
}

// P9.1: below, up to where nothing is left, and where a step would wrap round.
func TestBelow(t *testing.T) {
	rows := []row{
		{to(0, 100), to(8, 8), possible(to(0, 7), to(8, 8))},
		{to(5, 9), to(0, 20), possible(to(5, 9), to(6, 20))},
		{to(5, 9), to(0, 9), possible(to(5, 8), to(6, 9))},
		{to(5, 9), to(0, 10), possible(to(5, 9), to(6, 10))},
		{to(5, 9), to(6, 20), possible(to(5, 9), to(6, 20))},
		{to(5, 9), to(7, 20), possible(to(5, 9), to(7, 20))},
		{to(5, 9), to(0, 6), possible(to(5, 5), to(6, 6))},
		{to(5, 9), to(0, 5), impossible()},
		{to(5, 9), to(0, 4), impossible()},
		{to(5, 9), to(5, 5), impossible()},
		{to(5, 5), to(0, 5), impossible()},
		{to(5, 5), to(0, 6), possible(to(5, 5), to(6, 6))},
		{to(0, 9), to(0, 0), impossible()},
		{to(0, most), to(0, 0), impossible()},
		{to(most, most), to(0, most), impossible()},
		{to(0, most), to(1, 1), possible(to(0, 0), to(1, 1))},
		{to(0, most), to(0, most), possible(to(0, most-1), to(1, most))},
		{to(most-1, most), to(0, most), possible(to(most-1, most-1), to(most, most))},
		{to(high-1, high), to(0, high), possible(to(high-1, high-1), to(high, high))},
	}
	wantRows(t, api.CondLt, api.CondGe, rows)
	wantExchanged(t, api.CondGt, api.CondLe, rows)
}

// P9.1: not above, up to where one number is left, and beyond it.
func TestNotAbove(t *testing.T) {
	rows := []row{
		{to(0, 100), to(8, 8), possible(to(0, 8), to(8, 8))},
		{to(5, 9), to(0, 20), possible(to(5, 9), to(5, 20))},
		{to(5, 9), to(0, 9), possible(to(5, 9), to(5, 9))},
		{to(5, 9), to(0, 8), possible(to(5, 8), to(5, 8))},
		{to(5, 9), to(6, 20), possible(to(5, 9), to(6, 20))},
		{to(5, 9), to(0, 5), possible(to(5, 5), to(5, 5))},
		{to(5, 9), to(0, 4), impossible()},
		{to(5, 9), to(4, 4), impossible()},
		{to(5, 5), to(0, 4), impossible()},
		{to(0, 9), to(0, 0), possible(to(0, 0), to(0, 0))},
		{to(1, 9), to(0, 0), impossible()},
		{to(most, most), to(0, most), possible(to(most, most), to(most, most))},
		{to(most, most), to(0, most-1), impossible()},
		{to(0, most), to(0, most), possible(to(0, most), to(0, most))},
		{to(high, most), to(0, high), possible(to(high, high), to(high, high))},
	}
	wantRows(t, api.CondLe, api.CondGt, rows)
	wantExchanged(t, api.CondGe, api.CondLt, rows)
}

// P9.1: numbers with a sign and common bits refine nothing, also where no numbers of the spans could be so, as long as one span has more than one number.
func TestConditionsThatRefineNothing(t *testing.T) {
	all := spans(ends())
	for _, cond := range []int{api.CondSlt, api.CondSge, api.CondSet} {
		for _, s := range all {
			for _, u := range all {
				if single(s) && single(u) {
					continue
				}
				wantRefine(t, cond, s, u, true, possible(s, u))
				wantRefine(t, cond, s, u, false, possible(s, u))
			}
		}
	}
}

// P9.1: two single spans are asked by the condition itself, and come back as they were.
func TestSingleSpans(t *testing.T) {
	for _, r := range []struct {
		cond  int
		a, b  uint64
		holds bool
	}{
		{api.CondEq, 3, 3, true},
		{api.CondEq, 3, 4, false},
		{api.CondNe, 3, 4, true},
		{api.CondNe, 3, 3, false},
		{api.CondLt, 3, 4, true},
		{api.CondLt, 4, 4, false},
		{api.CondLe, 4, 4, true},
		{api.CondLe, 5, 4, false},
		{api.CondGt, 5, 4, true},
		{api.CondGt, 4, 4, false},
		{api.CondGe, 4, 4, true},
		{api.CondGe, 3, 4, false},
		{api.CondSlt, most, 0, true},
		{api.CondSlt, 0, most, false},
		{api.CondSge, 0, most, true},
		{api.CondSge, most, 0, false},
		{api.CondSet, 6, 3, true},
		{api.CondSet, 6, 9, false},
	} {
		wantSingle(t, r.cond, r.a, r.b, r.holds)
	}
	for cond := 1; cond <= lastCond; cond++ {
		for _, a := range ends() {
			for _, b := range ends() {
				holds, _ := alu.Holds(cond, a, b)
				wantSingle(t, cond, a, b, holds)
			}
		}
	}
}

func wantSingle(t *testing.T, cond int, a, b uint64, holds bool) {
	t.Helper()
	s, u := to(a, a), to(b, b)
	wantRefine(t, cond, s, u, holds, possible(s, u))
	wantRefine(t, cond, s, u, !holds, impossible())
}

// P9.1: every condition over every two spans of chosen ends, and over all small spans at the edges, against the model.
func TestAgainstModel(t *testing.T) {
	for _, l := range [][]uint64{ends(), every(to(0, 12)), every(to(high-5, high+4)), every(to(most-9, most))} {
		all := spans(l)
		for cond := 1; cond <= lastCond; cond++ {
			for _, s := range all {
				for _, u := range all {
					wantRefine(t, cond, s, u, true, modelRefine(cond, s, u, true))
					wantRefine(t, cond, s, u, false, modelRefine(cond, s, u, false))
				}
			}
		}
	}
}

// P9.1, R1: a condition that there isn't, for single spans and others.
func TestUnknownConditions(t *testing.T) {
	for _, cond := range unknown() {
		for _, s := range []api.Span{to(0, 0), to(1, 1), to(0, 5), to(3, high), to(0, most), to(most, most), to(2, 1)} {
			for _, u := range []api.Span{to(0, 0), to(2, 2), to(0, 9), to(7, high), to(0, most), to(most, 0)} {
				wantNoRefine(t, cond, s, u, true)
				wantNoRefine(t, cond, s, u, false)
			}
		}
	}
}

// P9.1, R1: a span that isn't valid, on either side, for conditions that there are and ones that there aren't.
func TestWrongSpans(t *testing.T) {
	for cond := 0; cond <= lastCond+1; cond++ {
		for _, s := range wrong() {
			for _, u := range append(append(spans(ends()), wrong()...), to(s.Hi, s.Lo)) {
				for _, holds := range []bool{true, false} {
					wantNoRefine(t, cond, s, u, holds)
					wantNoRefine(t, cond, u, s, holds)
				}
			}
		}
	}
}

// P9.2: numbers between which the condition holds, or doesn't, are in the refined spans: all numbers of small spans at the edges, and some of great ones.
func TestNumbersStay(t *testing.T) {
	chosen := spans(ends())
	for _, s := range chosen {
		for _, u := range chosen {
			wantNumbers(t, s, u)
		}
	}
	edges := []uint64{0, high - 4, most - 6}
	for _, a := range edges {
		for _, b := range edges {
			for _, s := range spans(every(to(a, a+6))) {
				for _, u := range spans(every(to(b, b+6))) {
					wantNumbers(t, s, u)
				}
			}
		}
	}
}

// wantNumbers holds each number of the one span against each of the other, for each condition that holds or doesn't.
func wantNumbers(t *testing.T, s, u api.Span) {
	t.Helper()
	l, m := some(s, ends()), some(u, ends())
	for cond := 1; cond <= lastCond; cond++ {
		yesS, yesU, yes, err := branch.Refine(cond, s, u, true)
		noS, noU, no, noErr := branch.Refine(cond, s, u, false)
		if err != api.OK || noErr != api.OK {
			t.Fatalf("Refine(%s, %v, %v) = %d, %d", names[cond], s, u, err, noErr)
		}
		for _, a := range l {
			for _, b := range m {
				holds, _ := alu.Holds(cond, a, b)
				got := answer{noS, noU, no}
				if holds {
					got = answer{yesS, yesU, yes}
				}
				if !got.has(a, b) {
					t.Fatalf("Refine(%s, %v, %v, %t) = %v; want it to have %d and %d", names[cond], s, u, holds, got, a, b)
				}
			}
		}
	}
}

// has asks whether a number of the one span and a number of the other are left.
func (g answer) has(a, b uint64) bool {
	return g.can && a >= g.u.Lo && a <= g.u.Hi && b >= g.v.Lo && b <= g.v.Hi
}

// P9.2: the refined spans are within those given, and from CondEq to CondGe the condition holds, or doesn't, between two of their ends.
func TestRefinedSpans(t *testing.T) {
	for _, l := range [][]uint64{ends(), every(to(0, 9)), every(to(high-4, high+3)), every(to(most-7, most))} {
		all := spans(l)
		for cond := 1; cond <= lastCond; cond++ {
			for _, s := range all {
				for _, u := range all {
					wantRefined(t, cond, s, u, true)
					wantRefined(t, cond, s, u, false)
				}
			}
		}
	}
}

func wantRefined(t *testing.T, cond int, s, u api.Span, holds bool) {
	t.Helper()
	p, q, can, err := branch.Refine(cond, s, u, holds)
	if err != api.OK {
		t.Fatalf("Refine(%s, %v, %v, %t): %d", names[cond], s, u, holds, err)
	}
	if !can {
		return
	}
	if !inside(p, s) || !inside(q, u) {
		t.Fatalf("Refine(%s, %v, %v, %t) = %v, %v; want spans within those", names[cond], s, u, holds, p, q)
	}
	if cond <= api.CondGe && !betweenEnds(cond, p, q, holds) {
		t.Fatalf("Refine(%s, %v, %v, %t) = %v, %v; want two ends for which it is so", names[cond], s, u, holds, p, q)
	}
}

func inside(s, t api.Span) bool {
	return s.Lo <= s.Hi && t.Lo <= s.Lo && s.Hi <= t.Hi
}

func betweenEnds(cond int, s, t api.Span, holds bool) bool {
	for _, a := range []uint64{s.Lo, s.Hi} {
		for _, b := range []uint64{t.Lo, t.Hi} {
			if is, _ := alu.Holds(cond, a, b); is == holds {
				return true
			}
		}
	}
	return false
}
