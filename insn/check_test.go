package insn_test

import (
	"testing"

	"turnbuckle/api"
)

// P6.1: the chapter's examples, and each error by itself.
func TestCheck(t *testing.T) {
	for _, c := range []struct {
		i   api.Insn
		err api.Errno
	}{
		{api.Insn{Op: api.OpJmp}, api.ErrRange},
		{api.Insn{Op: api.OpMov, C: 1}, api.ErrArg},
		{api.Insn{Op: api.OpMov}, api.OK},
		{api.Insn{Op: api.OpMov, A: 9, B: 9}, api.OK},
		{api.Insn{Op: api.OpMov, A: 10}, api.ErrRange},
		{api.Insn{Op: api.OpMov, B: 10}, api.ErrRange},
		{api.Insn{Op: api.OpMov, Imm: 1}, api.ErrArg},
		{api.Insn{Op: api.OpMov, Imm: 1 << 24}, api.ErrArg},
		{api.Insn{Op: api.OpImm, A: 9, Imm: 1<<32 - 1}, api.OK},
		{api.Insn{Op: api.OpImm, B: 1}, api.ErrArg},
		{api.Insn{Op: api.OpImm, C: 1}, api.ErrArg},
		{api.Insn{Op: api.OpAlu}, api.ErrRange},
		{api.Insn{Op: api.OpAlu, C: api.AluSar}, api.OK},
		{api.Insn{Op: api.OpAlu, C: api.AluSar + 1}, api.ErrRange},
		{api.Insn{Op: api.OpAlu, C: api.AluAdd, Imm: 1}, api.ErrArg},
		{api.Insn{Op: api.OpAluI, C: api.AluAdd, B: 1}, api.ErrArg},
		{api.Insn{Op: api.OpAluI, C: 12}, api.ErrRange},
		{api.Insn{Op: api.OpJmp, Imm: 127}, api.OK},
		{api.Insn{Op: api.OpJmp, Imm: 128}, api.ErrRange},
		{api.Insn{Op: api.OpJmp, Imm: 1<<32 - 1}, api.ErrRange},
		{api.Insn{Op: api.OpJmp, Imm: 257}, api.ErrRange}, // 1, if it were a byte
		{api.Insn{Op: api.OpJmp, A: 1, Imm: 1}, api.ErrArg},
		{api.Insn{Op: api.OpJcc, B: 10, C: 1, Imm: 1}, api.ErrRange},
		{api.Insn{Op: api.OpJcc, C: 10, Imm: 1}, api.ErrRange},
		{api.Insn{Op: api.OpJcc, C: 9, Imm: 1}, api.OK},
		{api.Insn{Op: api.OpJccI, B: 255, C: 9, Imm: 127}, api.OK},
		{api.Insn{Op: api.OpJccI, A: 10, B: 255, C: 9, Imm: 127}, api.ErrRange},
		{api.Insn{Op: api.OpSave, C: 7}, api.OK},
		{api.Insn{Op: api.OpSave, C: 8}, api.ErrRange},
		{api.Insn{Op: api.OpSave, B: 1}, api.ErrArg},
		{api.Insn{Op: api.OpLoad, C: 8}, api.ErrRange},
		{api.Insn{Op: api.OpGet, C: 11, Imm: 1<<32 - 1}, api.OK},
		{api.Insn{Op: api.OpGet, C: 12}, api.ErrRange},
		{api.Insn{Op: api.OpGetX, Imm: 9}, api.OK},
		{api.Insn{Op: api.OpGetX, Imm: 10}, api.ErrRange},
		{api.Insn{Op: api.OpGetX, Imm: 256}, api.ErrRange},
		{api.Insn{Op: api.OpPut, C: 11, Imm: 10}, api.OK},
		{api.Insn{Op: api.OpPutX, Imm: 10}, api.ErrRange},
		{api.Insn{Op: api.OpCall}, api.ErrRange},
		{api.Insn{Op: api.OpCall, C: 22, Imm: 1<<32 - 1}, api.OK},
		{api.Insn{Op: api.OpCall, C: 23}, api.ErrRange},
		{api.Insn{Op: api.OpCall, A: 1, C: 1}, api.ErrArg},
		{api.Insn{Op: api.OpCall, B: 1, C: 1}, api.ErrArg},
		{api.Insn{Op: api.OpExit}, api.OK},
		{api.Insn{Op: api.OpExit, A: 1}, api.ErrArg},
		{api.Insn{Op: api.OpExit, B: 1}, api.ErrArg},
		{api.Insn{Op: api.OpExit, C: 1}, api.ErrArg},
		{api.Insn{Op: api.OpExit, Imm: 1}, api.ErrArg},
	} {
		wantCheck(t, c.i, c.err)
		if err := modelCheck(c.i); err != c.err {
			t.Errorf("the model checks %v with %d; want %d", c.i, err, c.err)
		}
		wantModel(t, c.i)
	}
}

// P6.1: an operation that isn't in the table, whatever the operands are.
func TestCheckOfUnknownOperations(t *testing.T) {
	for op := range 256 {
		if op >= api.OpMov && op <= api.OpExit {
			continue
		}
		for _, i := range []api.Insn{{}, {A: 1, B: 2, C: 3, Imm: 4}, {A: 10}, {B: 10}, {C: 255}, {Imm: 1<<32 - 1}, {A: 255, B: 255, C: 255, Imm: 1<<32 - 1}} {
			i.Op = uint8(op)
			wantCheck(t, i, api.ErrForm)
			wantModel(t, i)
		}
	}
}

// P6.1: a named operand out of its range counts ahead of another that isn't 0, wherever the two stand.
func TestCheckInOrder(t *testing.T) {
	for _, i := range []api.Insn{
		{Op: api.OpMov, A: 10, C: 1},
		{Op: api.OpMov, B: 10, C: 1, Imm: 1},
		{Op: api.OpImm, A: 10, B: 1},
		{Op: api.OpImm, A: 10, C: 1},
		{Op: api.OpAlu, A: 10, C: 1, Imm: 1},
		{Op: api.OpAlu, Imm: 1},
		{Op: api.OpAluI, B: 1},
		{Op: api.OpAluI, B: 1, C: 12},
		{Op: api.OpJmp, A: 1},
		{Op: api.OpJmp, B: 1, Imm: 128},
		{Op: api.OpJmp, C: 1, Imm: 1 << 31},
		{Op: api.OpSave, B: 1, C: 8},
		{Op: api.OpSave, A: 10, Imm: 1},
		{Op: api.OpLoad, A: 10, B: 1},
		{Op: api.OpLoad, C: 8, Imm: 1},
		{Op: api.OpCall, A: 1},
		{Op: api.OpCall, B: 1, C: 23},
	} {
		wantCheck(t, i, api.ErrRange)
		wantModel(t, i)
	}
}

// P6.1: each operand of each row by itself: at the ends of its range and just beyond them, or at 0 and at other values.
func TestCheckOfEachOperand(t *testing.T) {
	for _, i := range samples() {
		wantCheck(t, i, api.OK)
		for v := range 256 {
			for place := range 3 {
				changed := i
				*[]*uint8{&changed.A, &changed.B, &changed.C}[place] = uint8(v)
				limits := model[i.Op].limits()
				want := api.OK
				switch l := limits[place]; {
				case l == nil && v != 0:
					want = api.ErrArg
				case l != nil && (uint32(v) < l.low || uint32(v) > l.high):
					want = api.ErrRange
				}
				wantCheck(t, changed, want)
			}
		}
		for _, imm := range imms() {
			changed := i
			changed.Imm = imm
			wantModel(t, changed)
		}
	}
}

// P6.1 to P6.4: all operations, with all values of C and all chosen values of the others, so that many errors apply at once.
func TestAllOperands(t *testing.T) {
	chosen := []uint8{0, 1, 9, 10, 255}
	numbers := []uint32{0, 1, 9, 10, 127, 128, 256, 1<<32 - 1}
	for op := range 18 {
		for c := range 26 {
			for _, a := range chosen {
				for _, b := range chosen {
					for _, imm := range numbers {
						wantModel(t, api.Insn{Op: uint8(op), A: a, B: b, C: uint8(c), Imm: imm})
					}
				}
			}
		}
	}
}
