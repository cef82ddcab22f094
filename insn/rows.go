package insn

import (
	"math"

	"turnbuckle/api"
)

// Where an operand stands in an instruction. A row that names fewer than four leaves the others nowhere.
const (
	nowhere = iota
	inA
	inB
	inC
	inImm
)

// What an operand can be: it has a range of its own, and a way to be written.
const (
	nothing = iota
	register
	slot
	field
	number // any that Imm holds
	small  // any that B holds
	onward
	arithmetic
	condition
	helper
)

type operand struct{ place, form uint8 }

// rows holds, for each operation, the operands that it names, in the order of their words; what is part of the first word comes first.
var rows = [...][4]operand{
	api.OpMov:  {{inA, register}, {inB, register}},
	api.OpImm:  {{inA, register}, {inImm, number}},
	api.OpAlu:  {{inC, arithmetic}, {inA, register}, {inB, register}},
	api.OpAluI: {{inC, arithmetic}, {inA, register}, {inImm, number}},
	api.OpJmp:  {{inImm, onward}},
	api.OpJcc:  {{inC, condition}, {inA, register}, {inB, register}, {inImm, onward}},
	api.OpJccI: {{inC, condition}, {inA, register}, {inB, small}, {inImm, onward}},
	api.OpSave: {{inC, slot}, {inA, register}},
	api.OpLoad: {{inA, register}, {inC, slot}},
	api.OpGet:  {{inA, register}, {inB, register}, {inC, field}, {inImm, number}},
	api.OpGetX: {{inA, register}, {inB, register}, {inC, field}, {inImm, register}},
	api.OpPut:  {{inB, register}, {inC, field}, {inImm, number}, {inA, register}},
	api.OpPutX: {{inB, register}, {inC, field}, {inImm, register}, {inA, register}},
	api.OpCall: {{inC, helper}, {inImm, number}},
	api.OpExit: {},
}

// forms holds each form's range, and the sign that its words begin with.
var forms = [...]struct {
	low, high uint32
	sign      string
}{
	nothing:    {0, 0, ""},
	register:   {0, api.Regs - 1, "r"},
	slot:       {0, api.Slots - 1, "s"},
	field:      {0, api.MaxFields - 1, "f"},
	number:     {0, math.MaxUint32, ""},
	small:      {0, math.MaxUint8, ""},
	onward:     {1, api.MaxInsns - 1, "+"},
	arithmetic: {api.AluAdd, api.AluSar, ""},
	condition:  {api.CondEq, api.CondSet, ""},
	helper:     {api.CallNew, api.CallRcuUnlock, ""},
}

func inRange(form uint8, v uint32) bool {
	return v >= forms[form].low && v <= forms[form].high
}

// operandAt is 0 nowhere, which is in the range of nothing.
func operandAt(i api.Insn, place uint8) uint32 {
	switch place {
	case inA:
		return uint32(i.A)
	case inB:
		return uint32(i.B)
	case inC:
		return uint32(i.C)
	case inImm:
		return i.Imm
	}
	return 0
}

// withOperand expects that v is in the range of a form that stands at the place, so that no byte is too small for it.
func withOperand(i api.Insn, place uint8, v uint32) api.Insn {
	switch place {
	case inA:
		i.A = uint8(v)
	case inB:
		i.B = uint8(v)
	case inC:
		i.C = uint8(v)
	case inImm:
		i.Imm = v
	}
	return i
}
