package alu_test

import (
	"testing"

	"turnbuckle/alu"
	"turnbuckle/api"
)

// P7.1: the chapter's examples, and each operation by itself.
func TestDo(t *testing.T) {
	for _, c := range []struct {
		op         int
		a, b, want uint64
	}{
		{api.AluSub, 1, 2, all},
		{api.AluDiv, 7, 0, 0},
		{api.AluMod, 7, 0, 7},
		{api.AluSar, high, 65, high + 1<<62},
		{api.AluAdd, 2, 3, 5},
		{api.AluAdd, all, 1, 0},
		{api.AluAdd, all, all, all - 1},
		{api.AluAdd, high, high, 0},
		{api.AluAdd, 1<<32 - 1, 1, 1 << 32},
		{api.AluSub, 5, 3, 2},
		{api.AluSub, 0, all, 1},
		{api.AluSub, 0, high, high},
		{api.AluSub, 1 << 32, 1, 1<<32 - 1},
		{api.AluMul, 6, 7, 42},
		{api.AluMul, 1 << 32, 1 << 32, 0},
		{api.AluMul, 1 << 31, 1 << 32, high},
		{api.AluMul, 1<<32 - 1, 1<<32 + 1, all},
		{api.AluMul, all, all, 1},
		{api.AluDiv, 7, 2, 3},
		{api.AluDiv, 1, 2, 0},
		{api.AluDiv, all, 2, high - 1},
		{api.AluDiv, all, all, 1},
		{api.AluDiv, all - 1, all, 0},
		{api.AluDiv, high, all, 0}, // 2^63, if they had signs
		{api.AluMod, 7, 4, 3},
		{api.AluMod, 8, 4, 0},
		{api.AluMod, 3, 4, 3},
		{api.AluMod, all, 10, 5},
		{api.AluMod, high, all, high}, // 0, if they had signs
		{api.AluAnd, 12, 10, 8},
		{api.AluAnd, all, high, high},
		{api.AluOr, 12, 10, 14},
		{api.AluOr, high, 1, high + 1},
		{api.AluXor, 12, 10, 6},
		{api.AluXor, all, all, 0},
		{api.AluXor, all, 0, all},
		{api.AluShl, 3, 2, 12},
		{api.AluShr, 13, 2, 3},
		{api.AluSar, 13, 2, 3},
		{api.AluSar, all - 4, 1, all - 2}, // -5 halved, rounded down, is -3
	} {
		wantDo(t, c.op, c.a, c.b, c.want)
	}
}

// P7.1: the distance is b modulo 64, for numbers with and without the highest bit.
func TestShifts(t *testing.T) {
	const with, without = 0x8000000000000006, 0x6000000000000003
	for _, c := range []struct {
		a, b          uint64
		shl, shr, sar uint64
	}{
		{with, 0, with, with, with},
		{with, 1, 0xc, 0x4000000000000003, 0xc000000000000003},
		{with, 63, 0, 1, all},
		{with, 64, with, with, with},
		{with, 65, 0xc, 0x4000000000000003, 0xc000000000000003},
		{with, 127, 0, 1, all},
		{with, 128, with, with, with},
		{with, all, 0, 1, all},
		{with, 1 << 32, with, with, with},
		{with, high + 1, 0xc, 0x4000000000000003, 0xc000000000000003},
		{without, 0, without, without, without},
		{without, 1, 0xc000000000000006, 0x3000000000000001, 0x3000000000000001},
		{without, 63, high, 0, 0},
		{without, 64, without, without, without},
		{without, 65, 0xc000000000000006, 0x3000000000000001, 0x3000000000000001},
		{without, 127, high, 0, 0},
		{without, 128, without, without, without},
		{without, all, high, 0, 0},
		{without, 1 << 32, without, without, without},
		{without, high + 1, 0xc000000000000006, 0x3000000000000001, 0x3000000000000001},
		{all, 63, high, 1, all},
		{all, 4, all - 15, 1<<60 - 1, all},
		{high, 63, 0, 1, all},
		{high - 1, 62, high + 1<<62, 1, 1},
		{0, 63, 0, 0, 0},
		{1, all, high, 0, 0},
	} {
		wantDo(t, api.AluShl, c.a, c.b, c.shl)
		wantDo(t, api.AluShr, c.a, c.b, c.shr)
		wantDo(t, api.AluSar, c.a, c.b, c.sar)
	}
}

// P7.1: division and remainder by 0.
func TestDivisionByZero(t *testing.T) {
	for _, a := range append(ends(), scattered(100)...) {
		wantDo(t, api.AluDiv, a, 0, 0)
		wantDo(t, api.AluMod, a, 0, a)
	}
}

// P7.1: every operation over the numbers at the ends, small ones and scattered ones, against the model.
func TestDoAgainstModel(t *testing.T) {
	same := func(a, b uint64) {
		for op := 1; op <= lastOp; op++ {
			wantDo(t, op, a, b, modelDo(op, a, b))
		}
	}
	pairs(append(ends(), scattered(40)...), same)
	var small []uint64
	for n := range uint64(40) {
		small = append(small, n)
	}
	pairs(small, same)
}

// P7.1: every distance within some turns, and each power of two, against the model.
func TestShiftsAgainstModel(t *testing.T) {
	for op := api.AluShl; op <= api.AluSar; op++ {
		for b := range uint64(200) {
			for k := range 64 {
				for _, a := range []uint64{1 << k, all << k, all >> k} {
					wantDo(t, op, a, b, modelDo(op, a, b))
				}
			}
		}
	}
}

// P7.1, R1: an operation that there isn't, whatever the numbers are.
func TestDoOfUnknownOperations(t *testing.T) {
	for _, op := range outside(lastOp) {
		pairs([]uint64{0, 1, 2, 63, high, all}, func(a, b uint64) {
			if v, err := alu.Do(op, a, b); v != 0 || err != api.ErrArg {
				t.Errorf("Do(%d, %d, %d) = %d, %d; want 0, ErrArg", op, a, b, v, err)
			}
		})
	}
}

// P7.3: what the operations are to each other.
func TestDoAndUndo(t *testing.T) {
	numbers := append(ends(), scattered(60)...)
	pairs(numbers, func(a, b uint64) {
		sum := done(t, api.AluAdd, a, b)
		wantDo(t, api.AluSub, sum, b, a)
		wantDo(t, api.AluSub, sum, a, b)
		product := done(t, api.AluMul, done(t, api.AluDiv, a, b), b)
		rest := done(t, api.AluMod, a, b)
		wantDo(t, api.AluAdd, product, rest, a)
		if b != 0 && rest >= b {
			t.Errorf("Do(AluMod, %d, %d) = %d; want less than the divisor", a, b, rest)
		}
		wantDo(t, api.AluXor, done(t, api.AluXor, a, b), b, a)
	})
	for _, a := range numbers {
		for k := range uint64(64) {
			for _, b := range []uint64{k, k + 64, k + all - 63} {
				wantDo(t, api.AluShl, a, b, done(t, api.AluMul, a, 1<<k))
				wantDo(t, api.AluShr, a, b, done(t, api.AluDiv, a, 1<<k))
			}
		}
	}
}
