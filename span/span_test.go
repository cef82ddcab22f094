package span_test

import (
	"testing"

	"turnbuckle/api"
	"turnbuckle/span"
)

// P8.1: a number alone, and all numbers.
func TestOfAndAll(t *testing.T) {
	for _, n := range ends() {
		if s := span.Of(n); s.Lo != n || s.Hi != n {
			t.Errorf("Of(%d) = %v", n, s)
		}
	}
	if s := span.All(); s.Lo != 0 || s.Hi != most {
		t.Errorf("All() = %v", s)
	}
}

// P8.1: a span is valid if its Lo isn't above its Hi.
func TestMay(t *testing.T) {
	for _, lo := range ends() {
		for _, hi := range ends() {
			if may := span.May(to(lo, hi)); may == (lo > hi) {
				t.Errorf("May(%d to %d) = %t", lo, hi, may)
			}
		}
	}
}

// P8.1: the ends of a span, what is next to them, and all numbers that small spans have.
func TestHas(t *testing.T) {
	for _, c := range []struct {
		s    api.Span
		n    uint64
		want bool
	}{
		{to(3, 7), 2, false},
		{to(3, 7), 3, true},
		{to(3, 7), 5, true},
		{to(3, 7), 7, true},
		{to(3, 7), 8, false},
		{to(3, 7), 0, false},
		{to(3, 7), most, false},
		{to(4, 4), 3, false},
		{to(4, 4), 4, true},
		{to(4, 4), 5, false},
		{to(0, most), 0, true},
		{to(0, most), most, true},
		{to(0, most), high, true},
		{to(high, most), high - 1, false},
		{to(high-1, high), high, true},
		{to(0, high-1), high, false},
	} {
		if has := span.Has(c.s, c.n); has != c.want {
			t.Errorf("Has(%v, %d) = %t", c.s, c.n, has)
		}
	}
	for lo := range uint64(8) {
		for hi := range uint64(8) {
			counted := map[uint64]bool{}
			for n := lo; n <= hi; n++ {
				counted[n] = true
			}
			for n := range uint64(10) {
				if has := span.Has(to(lo, hi), n); has != counted[n] {
					t.Errorf("Has(%d to %d, %d) = %t", lo, hi, n, has)
				}
			}
		}
	}
}

// P8.1: a span that isn't valid has no number at all.
func TestHasOfWrongSpans(t *testing.T) {
	for _, s := range wrong() {
		for _, n := range append(ends(), s.Lo, s.Hi) {
			if span.Has(s, n) {
				t.Errorf("Has(%v, %d)", s, n)
			}
		}
	}
}

// P8.1: Within of chosen spans, and of every two spans of chosen ends.
func TestWithin(t *testing.T) {
	for _, c := range []struct {
		s, u api.Span
		want bool
	}{
		{to(2, 3), to(2, 4), true},
		{to(3, 4), to(2, 4), true},
		{to(2, 4), to(2, 4), true},
		{to(3, 3), to(2, 4), true},
		{to(1, 3), to(2, 4), false},
		{to(3, 5), to(2, 4), false},
		{to(1, 5), to(2, 4), false},
		{to(0, 1), to(2, 4), false},
		{to(5, 6), to(2, 4), false},
		{to(2, 4), to(3, 3), false},
		{to(0, most), to(0, most), true},
		{to(0, most), to(1, most), false},
		{to(0, most), to(0, most-1), false},
		{to(high, most), to(0, most), true},
	} {
		if in := span.Within(c.s, c.u); in != c.want {
			t.Errorf("Within(%v, %v) = %t", c.s, c.u, in)
		}
	}
	for _, s := range spans(ends()) {
		for _, u := range spans(ends()) {
			if in := span.Within(s, u); in != (u.Lo <= s.Lo && s.Hi <= u.Hi) {
				t.Errorf("Within(%v, %v) = %t", s, u, in)
			}
		}
	}
}

// P8.1: a span that isn't valid is within none, and none is within it.
func TestWithinOfWrongSpans(t *testing.T) {
	for _, s := range wrong() {
		for _, u := range append(append(spans(ends()), wrong()...), to(s.Hi, s.Lo)) {
			if span.Within(s, u) || span.Within(u, s) {
				t.Errorf("Within of %v and %v", s, u)
			}
		}
	}
}

// P8.2: Join and Meet of spans that lie in each other, across each other, beside each other and apart.
func TestJoinAndMeet(t *testing.T) {
	for _, c := range []struct{ s, u, join, meet api.Span }{
		{to(1, 6), to(5, 9), to(1, 9), to(5, 6)},
		{to(1, 9), to(3, 4), to(1, 9), to(3, 4)},
		{to(3, 4), to(3, 4), to(3, 4), to(3, 4)},
		{to(1, 5), to(5, 9), to(1, 9), to(5, 5)},
		{to(0, most), to(7, 7), to(0, most), to(7, 7)},
		{to(0, high), to(high, most), to(0, most), to(high, high)},
		{to(0, 0), to(0, 0), to(0, 0), to(0, 0)},
		{to(most, most), to(0, most), to(0, most), to(most, most)},
	} {
		wantJoin(t, c.s, c.u, c.join, api.OK)
		wantJoin(t, c.u, c.s, c.join, api.OK)
		wantMeet(t, c.s, c.u, c.meet, api.OK)
		wantMeet(t, c.u, c.s, c.meet, api.OK)
	}
	for _, c := range []struct{ s, u, join api.Span }{
		{to(1, 2), to(5, 9), to(1, 9)},
		{to(1, 2), to(3, 4), to(1, 4)},
		{to(0, 0), to(most, most), to(0, most)},
		{to(0, high-1), to(high, most), to(0, most)},
		{to(0, 0), to(1, 1), to(0, 1)},
	} {
		wantJoin(t, c.s, c.u, c.join, api.OK)
		wantJoin(t, c.u, c.s, c.join, api.OK)
		wantMeet(t, c.s, c.u, api.Span{}, api.ErrNone)
		wantMeet(t, c.u, c.s, api.Span{}, api.ErrNone)
	}
}

// P8.2, R1: Join and Meet of a span that isn't valid, on either side, also where the spans would have a number in common.
func TestJoinAndMeetOfWrongSpans(t *testing.T) {
	for _, s := range wrong() {
		for _, u := range append(append(spans(ends()), wrong()...), to(s.Hi, s.Lo)) {
			wantJoin(t, s, u, api.Span{}, api.ErrArg)
			wantJoin(t, u, s, api.Span{}, api.ErrArg)
			wantMeet(t, s, u, api.Span{}, api.ErrArg)
			wantMeet(t, u, s, api.Span{}, api.ErrArg)
		}
	}
}

// P8.4: Join has every number of either span, and Meet has just those of both.
func TestNumbersOfJoinAndMeet(t *testing.T) {
	l := []uint64{0, 1, 2, 3, 4, 5, high - 1, high, most - 1, most}
	for _, s := range spans(l) {
		for _, u := range spans(l) {
			join, err := span.Join(s, u)
			meet, meetErr := span.Meet(s, u)
			if err != api.OK {
				t.Errorf("Join(%v, %v): %d", s, u, err)
			}
			common := false
			for _, n := range l {
				inS, inU := s.Lo <= n && n <= s.Hi, u.Lo <= n && n <= u.Hi
				common = common || inS && inU
				if (inS || inU) && !span.Has(join, n) {
					t.Errorf("Join(%v, %v) = %v; want it to have %d", s, u, join, n)
				}
				if in := meetErr == api.OK && span.Has(meet, n); in != (inS && inU) {
					t.Errorf("Meet(%v, %v) = %v, %d; that it has %d is %t", s, u, meet, meetErr, n, in)
				}
			}
			if (meetErr == api.OK) != common || (meetErr == api.ErrNone) == common {
				t.Errorf("Meet(%v, %v): %d", s, u, meetErr)
			}
		}
	}
}
