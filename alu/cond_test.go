package alu_test

import (
	"testing"

	"turnbuckle/alu"
	"turnbuckle/api"
)

// P7.2: each condition by itself, with the lesser number first, with equal ones, and with the greater one first.
func TestHolds(t *testing.T) {
	for _, c := range []struct {
		cond                 int
		less, equal, greater bool
	}{
		{api.CondEq, false, true, false},
		{api.CondNe, true, false, true},
		{api.CondLt, true, false, false},
		{api.CondLe, true, true, false},
		{api.CondGt, false, false, true},
		{api.CondGe, false, true, true},
	} {
		for _, p := range [][2]uint64{{0, 1}, {1, 2}, {5, 1 << 31}, {1<<31 - 1, 1 << 31}, {1<<32 - 1, 1 << 32}, {1, 1 << 32}, {high - 1, high}, {0, high}, {1, all}, {high, all}, {all - 1, all}} {
			wantHolds(t, c.cond, p[0], p[1], c.less)
			wantHolds(t, c.cond, p[1], p[0], c.greater)
			wantHolds(t, c.cond, p[0], p[0], c.equal)
			wantHolds(t, c.cond, p[1], p[1], c.equal)
		}
	}
}

// P7.2: signed conditions over both signs: the numbers rise as numbers with a sign.
func TestHoldsOfSignedNumbers(t *testing.T) {
	rising := []uint64{high, high + 1, all - 1<<32, all - 1<<31, all - 1, all, 0, 1, 1<<31 - 1, 1 << 31, 1 << 32, high - 2, high - 1}
	for i, a := range rising {
		for j, b := range rising {
			wantHolds(t, api.CondSlt, a, b, i < j)
			wantHolds(t, api.CondSge, a, b, i >= j)
		}
	}
	wantHolds(t, api.CondSlt, all, 0, true) // the chapter's example
	wantHolds(t, api.CondSlt, 0, all, false)
	wantHolds(t, api.CondLt, all, 0, false)
}

// P7.2: CondSet with no bit in common, with just one, and with more.
func TestHoldsOfCommonBits(t *testing.T) {
	for k := range 64 {
		one := uint64(1) << k
		wantHolds(t, api.CondSet, one, one, true)
		wantHolds(t, api.CondSet, one, all, true)
		wantHolds(t, api.CondSet, all, one, true)
		wantHolds(t, api.CondSet, one, all-one, false)
		wantHolds(t, api.CondSet, all-one, one, false)
		wantHolds(t, api.CondSet, one, 0, false)
		wantHolds(t, api.CondSet, 0, one, false)
		wantHolds(t, api.CondSet, 0xaaaaaaaaaaaaaaaa|one, 0x5555555555555555|one, true)
		for j := range 64 {
			wantHolds(t, api.CondSet, one, 1<<j, j == k)
		}
	}
	wantHolds(t, api.CondSet, 0, 0, false)
	wantHolds(t, api.CondSet, 0, all, false)
	wantHolds(t, api.CondSet, all, all, true)
	wantHolds(t, api.CondSet, 6, 9, false)
	wantHolds(t, api.CondSet, 6, 3, true)
	wantHolds(t, api.CondSet, 0xaaaaaaaaaaaaaaaa, 0x5555555555555555, false)
}

// P7.2: every condition over the numbers at the ends, small ones and scattered ones, against the model.
func TestHoldsAgainstModel(t *testing.T) {
	pairs(append(ends(), scattered(60)...), func(a, b uint64) {
		for cond := 1; cond <= lastCond; cond++ {
			wantHolds(t, cond, a, b, modelHolds(cond, a, b))
		}
	})
}

// P7.2, R1: a condition that there isn't, whatever the numbers are.
func TestHoldsOfUnknownConditions(t *testing.T) {
	for _, cond := range outside(lastCond) {
		pairs([]uint64{0, 1, 2, high, all}, func(a, b uint64) {
			if v, err := alu.Holds(cond, a, b); v || err != api.ErrArg {
				t.Errorf("Holds(%d, %d, %d) = %t, %d; want false, ErrArg", cond, a, b, v, err)
			}
		})
	}
}

// P7.2: Not of each condition, CondSet among them, and of those that there aren't.
func TestNot(t *testing.T) {
	for _, c := range []struct{ cond, not int }{
		{api.CondEq, api.CondNe},
		{api.CondNe, api.CondEq},
		{api.CondLt, api.CondGe},
		{api.CondLe, api.CondGt},
		{api.CondGt, api.CondLe},
		{api.CondGe, api.CondLt},
		{api.CondSlt, api.CondSge},
		{api.CondSge, api.CondSlt},
	} {
		wantNot(t, c.cond, c.not, api.OK)
	}
	wantNot(t, api.CondSet, 0, api.ErrArg)
	for _, cond := range outside(lastCond) {
		wantNot(t, cond, 0, api.ErrArg)
	}
}

// P7.2: Not of Not is the condition itself.
func TestNotOfNot(t *testing.T) {
	for cond := 1; cond < api.CondSet; cond++ {
		not, err := alu.Not(cond)
		if err != api.OK || not == cond {
			t.Errorf("Not(%d) = %d, %d", cond, not, err)
		}
		wantNot(t, not, cond, api.OK)
	}
}

// P7.3: exactly one of a condition and its Not holds.
func TestOneOfConditionAndNot(t *testing.T) {
	for cond := 1; cond < api.CondSet; cond++ {
		not, err := alu.Not(cond)
		if err != api.OK {
			t.Fatalf("Not(%d): %d", cond, err)
		}
		pairs(append(ends(), scattered(60)...), func(a, b uint64) {
			one, err := alu.Holds(cond, a, b)
			other, errOther := alu.Holds(not, a, b)
			if one == other || err != api.OK || errOther != api.OK {
				t.Errorf("of %d and its Not %d, %t and %t hold for %d and %d (%d, %d)", cond, not, one, other, a, b, err, errOther)
			}
		})
	}
}
