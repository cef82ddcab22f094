package alu_test

import (
	"math"
	"math/big"
	"testing"

	"turnbuckle/alu"
	"turnbuckle/api"
)

const (
	all  = math.MaxUint64
	high = 1 << 63 // the highest bit alone
)

// ops and conds are written as numbers, as the document does: 1 to 11 and 1 to 9.
const (
	lastOp   = 11
	lastCond = 9
)

// ends are the numbers at the ends of what 32 and 64 bits hold, with their neighbours, and the distances around a whole turn of a shift.
func ends() []uint64 {
	var l []uint64
	for _, n := range []uint64{0, 1, 1 << 31, 1 << 32, high - 1, high, all} {
		l = append(l, n-1, n, n+1)
	}
	return append(l, 3, 7, 8, 10, 12, 62, 63, 64, 65, 66, 100, 127, 128, 129, 255, 256, 1<<62, 3<<62, high+63, all-63, all-64, 0xaaaaaaaaaaaaaaaa, 0x5555555555555555, 0x0123456789abcdef, 0xfedcba9876543210)
}

// scattered are n numbers of all lengths, the same ones each time.
func scattered(n int) []uint64 {
	var l []uint64
	v := uint64(0x9e3779b97f4a7c15)
	for at := range n {
		v ^= v << 13
		v ^= v >> 7
		v ^= v << 17
		l = append(l, v>>(at*7%64))
	}
	return l
}

// pairs gives each number with each other one, and with itself.
func pairs(l []uint64, do func(a, b uint64)) {
	for _, a := range l {
		for _, b := range l {
			do(a, b)
		}
	}
}

// whole is a number without an end to its bits.
func whole(n uint64) *big.Int {
	return new(big.Int).SetUint64(n)
}

// signed is what a number is in two's complement.
func signed(n uint64) *big.Int {
	v := whole(n)
	if n >= high {
		v.Sub(v, power(64))
	}
	return v
}

func power(k uint64) *big.Int {
	v := big.NewInt(1)
	for range k {
		v.Add(v, v)
	}
	return v
}

// modulo brings a number, also one below 0, into 0 to 2^64 - 1.
func modulo(v *big.Int) uint64 {
	return new(big.Int).Mod(v, power(64)).Uint64()
}

// bitwise goes from bit to bit.
func bitwise(a, b uint64, set func(x, y uint64) bool) uint64 {
	v := uint64(0)
	for k, place := 0, uint64(1); k < 64; k, place = k+1, place*2 {
		if set(a/place%2, b/place%2) {
			v += place
		}
	}
	return v
}

// modelDo reckons with numbers without an end, by the words of the document; it expects an operation that there is.
func modelDo(op int, a, b uint64) uint64 {
	x, y, v := whole(a), whole(b), new(big.Int)
	turn := power(b - b/64*64)
	switch op {
	case 1:
		v.Add(x, y)
	case 2:
		v.Sub(x, y)
	case 3:
		v.Mul(x, y)
	case 4:
		if b != 0 {
			v.Quo(x, y)
		}
	case 5:
		v = x
		if b != 0 {
			v = new(big.Int).Rem(x, y)
		}
	case 6:
		return bitwise(a, b, func(x, y uint64) bool { return x+y == 2 })
	case 7:
		return bitwise(a, b, func(x, y uint64) bool { return x+y > 0 })
	case 8:
		return bitwise(a, b, func(x, y uint64) bool { return x+y == 1 })
	case 9:
		v.Mul(x, turn)
	case 10:
		v.Quo(x, turn)
	case 11:
		v.Div(signed(a), turn) // rounded down, also below 0
	}
	return modulo(v)
}

// modelHolds holds numbers without an end against each other; it expects a condition that there is.
func modelHolds(cond int, a, b uint64) bool {
	order, signedOrder := whole(a).Cmp(whole(b)), signed(a).Cmp(signed(b))
	switch cond {
	case 1:
		return order == 0
	case 2:
		return order != 0
	case 3:
		return order == -1
	case 4:
		return order < 1
	case 5:
		return order == 1
	case 6:
		return order > -1
	case 7:
		return signedOrder == -1
	case 8:
		return signedOrder > -1
	case 9:
		return modelDo(6, a, b) > 0
	}
	return false
}

func wantDo(t *testing.T, op int, a, b, want uint64) {
	t.Helper()
	if v, err := alu.Do(op, a, b); v != want || err != api.OK {
		t.Errorf("Do(%d, %d, %d) = %d, %d; want %d", op, a, b, v, err, want)
	}
}

func wantHolds(t *testing.T, cond int, a, b uint64, want bool) {
	t.Helper()
	if v, err := alu.Holds(cond, a, b); v != want || err != api.OK {
		t.Errorf("Holds(%d, %d, %d) = %t, %d; want %t", cond, a, b, v, err, want)
	}
}

func wantNot(t *testing.T, cond, want int, wantErr api.Errno) {
	t.Helper()
	if v, err := alu.Not(cond); v != want || err != wantErr {
		t.Errorf("Not(%d) = %d, %d; want %d, %d", cond, v, err, want, wantErr)
	}
}

// done is the answer of an operation that may be.
func done(t *testing.T, op int, a, b uint64) uint64 {
	t.Helper()
	v, err := alu.Do(op, a, b)
	if err != api.OK {
		t.Fatalf("Do(%d, %d, %d): %d", op, a, b, err)
	}
	return v
}

// outside are the numbers that name none of 1 to last: those next to them, those that would be one of them if only a part of their bits were asked, and the ends of int.
func outside(last int) []int {
	l := []int{0, -1, -2, -last, -last - 1, last + 1, last + 2, 100, math.MinInt, math.MinInt + 1, math.MaxInt - 1, math.MaxInt}
	for n := 1; n <= last; n++ {
		l = append(l, -n, n+1<<8, n+1<<16, n+1<<32, n+1<<62, n+math.MinInt)
	}
	return l
}
