package insn

import (
	"strconv"
	"strings"

	"turnbuckle/api"
)

const blank = " "

// operations holds the first words that don't hang on C.
var operations = [...]string{
	api.OpMov:  "mov",
	api.OpImm:  "imm",
	api.OpJmp:  "jmp",
	api.OpSave: "save",
	api.OpLoad: "load",
	api.OpGet:  "get",
	api.OpGetX: "getx",
	api.OpPut:  "put",
	api.OpPutX: "putx",
	api.OpCall: "call",
	api.OpExit: "exit",
}

var arithmetics = [...]string{
	api.AluAdd: "add",
	api.AluSub: "sub",
	api.AluMul: "mul",
	api.AluDiv: "div",
	api.AluMod: "mod",
	api.AluAnd: "and",
	api.AluOr:  "or",
	api.AluXor: "xor",
	api.AluShl: "shl",
	api.AluShr: "shr",
	api.AluSar: "sar",
}

var conditions = [...]string{
	api.CondEq:  "eq",
	api.CondNe:  "ne",
	api.CondLt:  "lt",
	api.CondLe:  "le",
	api.CondGt:  "gt",
	api.CondGe:  "ge",
	api.CondSlt: "slt",
	api.CondSge: "sge",
	api.CondSet: "set",
}

var helpers = [...]string{
	api.CallNew:       "new",
	api.CallDrop:      "drop",
	api.CallAcquire:   "acquire",
	api.CallLookup:    "lookup",
	api.CallInsert:    "insert",
	api.CallDelete:    "delete",
	api.CallLock:      "lock",
	api.CallUnlock:    "unlock",
	api.CallPushFront: "pushfront",
	api.CallPushBack:  "pushback",
	api.CallPopFront:  "popfront",
	api.CallPopBack:   "popback",
	api.CallFront:     "front",
	api.CallTreeAdd:   "treeadd",
	api.CallTreeFirst: "treefirst",
	api.CallTreeLeft:  "treeleft",
	api.CallTreeRight: "treeright",
	api.CallTreeGone:  "treegone",
	api.CallSwap:      "swap",
	api.CallPeek:      "peek",
	api.CallRcuLock:   "rculock",
	api.CallRcuUnlock: "rcuunlock",
}

// Text writes an instruction.
func Text(i api.Insn) (string, api.Errno) {
	if err := Check(i); err != api.OK {
		return "", err
	}
	s := firstWord(i)
	for _, o := range rows[i.Op] {
		if hasWord(o) {
			s += blank + word(o.form, operandAt(i, o.place))
		}
	}
	return s, api.OK
}

// Read reads an instruction.
func Read(s string) (api.Insn, api.Errno) {
	words := strings.Split(s, blank)
	i, known := firstWords()[words[0]]
	if !known {
		return api.Insn{}, api.ErrForm
	}
	words = words[1:]
	for _, o := range rows[i.Op] {
		if !hasWord(o) {
			continue
		}
		if len(words) == 0 {
			return api.Insn{}, api.ErrForm
		}
		v, ok := readerOf(o.form)(words[0])
		if !ok {
			return api.Insn{}, api.ErrForm
		}
		i = withOperand(i, o.place, v)
		words = words[1:]
	}
	if len(words) > 0 {
		return api.Insn{}, api.ErrForm
	}
	return i, api.OK
}

// firstWord expects an operation of the table, and a C of its row.
func firstWord(i api.Insn) string {
	switch i.Op {
	case api.OpAlu:
		return arithmetics[i.C]
	case api.OpAluI:
		return arithmetics[i.C] + "i"
	case api.OpJcc:
		return "j" + conditions[i.C]
	case api.OpJccI:
		return "j" + conditions[i.C] + "i"
	}
	return operations[i.Op]
}

// firstWords asks firstWord for all there are, so that what is read can't differ from what is written. What a word leads to is the instruction as far as it tells it.
func firstWords() map[string]api.Insn {
	words := map[string]api.Insn{}
	for op := uint8(api.OpMov); op <= api.OpExit; op++ {
		i := api.Insn{Op: op}
		form := rows[op][0].form
		if !inFirstWord(form) {
			words[firstWord(i)] = i
			continue
		}
		for c := forms[form].low; c <= forms[form].high; c++ {
			i.C = uint8(c)
			words[firstWord(i)] = i
		}
	}
	return words
}

func inFirstWord(form uint8) bool {
	return form == arithmetic || form == condition
}

// hasWord asks whether an operand is written as a word of its own.
func hasWord(o operand) bool {
	return o.place != nowhere && !inFirstWord(o.form)
}

// word expects a number in the form's range.
func word(form uint8, v uint32) string {
	if form == helper {
		return helpers[v]
	}
	return forms[form].sign + decimal(v)
}

// readerOf makes the function that reads the words of a form; it is false for a word that isn't one of them.
func readerOf(form uint8) func(word string) (uint32, bool) {
	own := forms[form]
	if form == helper {
		return func(word string) (uint32, bool) {
			for c := own.low; c <= own.high; c++ {
				if helpers[c] == word {
					return c, true
				}
			}
			return 0, false
		}
	}
	return func(word string) (uint32, bool) {
		digits, signed := strings.CutPrefix(word, own.sign)
		v, ok := readDecimal(digits)
		if !signed || !ok || !inRange(form, v) {
			return 0, false
		}
		return v, true
	}
}

func decimal(v uint32) string {
	return strconv.FormatUint(uint64(v), 10)
}

// readDecimal holds a number against how it is written, as strconv lets leading zeros pass.
func readDecimal(digits string) (uint32, bool) {
	n, err := strconv.ParseUint(digits, 10, 32)
	if err != nil || decimal(uint32(n)) != digits {
		return 0, false
	}
	return uint32(n), true
}
