package insn_test

import (
	"bytes"
	"fmt"
	"math"
	"regexp"
	"slices"
	"strconv"
	"strings"
	"testing"

	"turnbuckle/api"
	"turnbuckle/insn"
)

// limit is the range of an operand that a row names.
type limit struct{ low, high uint32 }

// modelRow is a row of the chapter's table: nil for an operand that it doesn't name; pattern is what its texts look like, and order says which operand each group of the pattern is.
type modelRow struct {
	a, b, c, imm *limit
	pattern      string
	order        string
	names        []string // what C is written as, from 1 on
}

var (
	anyReg   = &limit{0, 9}
	anySlot  = &limit{0, 7}
	anyField = &limit{0, 11}
	anyImm   = &limit{0, math.MaxUint32}
	anyByte  = &limit{0, 255}
	forward  = &limit{1, 127}
	aluOps   = &limit{1, 11}
	conds    = &limit{1, 9}
	calls    = &limit{1, 22}

	aluNames  = strings.Fields("add sub mul div mod and or xor shl shr sar")
	condNames = strings.Fields("eq ne lt le gt ge slt sge set")
	callNames = strings.Fields("new drop acquire lookup insert delete lock unlock pushfront pushback popfront popback front treeadd treefirst treeleft treeright treegone swap peek rculock rcuunlock")
)

const digits = `(0|[1-9][0-9]*)`

// model is the chapter's table.
var model = map[uint8]modelRow{
	1:  {a: anyReg, b: anyReg, pattern: `mov rN rN`, order: "AB"},
	2:  {a: anyReg, imm: anyImm, pattern: `imm rN N`, order: "AI"},
	3:  {a: anyReg, b: anyReg, c: aluOps, pattern: `W rN rN`, order: "CAB", names: aluNames},
	4:  {a: anyReg, c: aluOps, imm: anyImm, pattern: `Wi rN N`, order: "CAI", names: aluNames},
	5:  {imm: forward, pattern: `jmp \+N`, order: "I"},
	6:  {a: anyReg, b: anyReg, c: conds, imm: forward, pattern: `jW rN rN \+N`, order: "CABI", names: condNames},
	7:  {a: anyReg, b: anyByte, c: conds, imm: forward, pattern: `jWi rN N \+N`, order: "CABI", names: condNames},
	8:  {a: anyReg, c: anySlot, pattern: `save sN rN`, order: "CA"},
	9:  {a: anyReg, c: anySlot, pattern: `load rN sN`, order: "AC"},
	10: {a: anyReg, b: anyReg, c: anyField, imm: anyImm, pattern: `get rN rN fN N`, order: "ABCI"},
	11: {a: anyReg, b: anyReg, c: anyField, imm: anyReg, pattern: `getx rN rN fN rN`, order: "ABCI"},
	12: {a: anyReg, b: anyReg, c: anyField, imm: anyImm, pattern: `put rN fN N rN`, order: "BCIA"},
	13: {a: anyReg, b: anyReg, c: anyField, imm: anyReg, pattern: `putx rN fN rN rN`, order: "BCIA"},
	14: {c: calls, imm: anyImm, pattern: `call W N`, order: "CI", names: callNames},
	15: {pattern: `exit`},
}

// patterns are made once, as the tests ask for them very often.
var patterns = func() map[uint8]*regexp.Regexp {
	made := map[uint8]*regexp.Regexp{}
	for op, row := range model {
		p := strings.ReplaceAll(row.pattern, "N", digits)
		p = strings.ReplaceAll(p, "W", "("+strings.Join(row.names, "|")+")")
		made[op] = regexp.MustCompile(`\A(?:` + p + `)\z`)
	}
	return made
}()

func (r modelRow) limits() [4]*limit {
	return [4]*limit{r.a, r.b, r.c, r.imm}
}

func operandsOf(i api.Insn) [4]uint32 {
	return [4]uint32{uint32(i.A), uint32(i.B), uint32(i.C), i.Imm}
}

func modelCheck(i api.Insn) api.Errno {
	row, ok := model[i.Op]
	if !ok {
		return api.ErrForm
	}
	values := operandsOf(i)
	for at, l := range row.limits() {
		if l != nil && (values[at] < l.low || values[at] > l.high) {
			return api.ErrRange
		}
	}
	for at, l := range row.limits() {
		if l == nil && values[at] != 0 {
			return api.ErrArg
		}
	}
	return api.OK
}

// modelText expects a valid instruction.
func modelText(i api.Insn) string {
	row := model[i.Op]
	values := map[rune]uint32{'A': uint32(i.A), 'B': uint32(i.B), 'C': uint32(i.C), 'I': i.Imm}
	s := strings.ReplaceAll(row.pattern, `\`, "")
	for _, place := range row.order {
		if place == 'C' && row.names != nil {
			s = strings.Replace(s, "W", row.names[i.C-1], 1)
		} else {
			s = strings.Replace(s, "N", fmt.Sprint(values[place]), 1)
		}
	}
	return s
}

// modelRead goes through all rows: no text is of two.
func modelRead(s string) (api.Insn, api.Errno) {
	for op, row := range model {
		groups := patterns[op].FindStringSubmatch(s)
		if groups == nil {
			continue
		}
		values := map[rune]uint64{}
		for at, place := range row.order {
			word := groups[at+1]
			if n := slices.Index(row.names, word); place == 'C' && n >= 0 {
				values[place] = uint64(n + 1)
			} else if v, err := strconv.ParseUint(word, 10, 64); err == nil {
				values[place] = v
			} else {
				return api.Insn{}, api.ErrForm
			}
		}
		if values['A'] > math.MaxUint8 || values['B'] > math.MaxUint8 || values['C'] > math.MaxUint8 || values['I'] > math.MaxUint32 {
			return api.Insn{}, api.ErrForm
		}
		i := api.Insn{Op: op, A: uint8(values['A']), B: uint8(values['B']), C: uint8(values['C']), Imm: uint32(values['I'])}
		if modelCheck(i) != api.OK {
			return api.Insn{}, api.ErrForm
		}
		return i, api.OK
	}
	return api.Insn{}, api.ErrForm
}

func modelBytes(l []api.Insn) []byte {
	var b []byte
	for _, i := range l {
		b = append(b, i.Op, i.A, i.B, i.C, uint8(i.Imm), uint8(i.Imm>>8), uint8(i.Imm>>16), uint8(i.Imm>>24))
	}
	return b
}

func modelParse(b []byte) ([]api.Insn, api.Errno) {
	if len(b)%8 != 0 {
		return nil, api.ErrForm
	}
	if len(b)/8 > 128 {
		return nil, api.ErrSize
	}
	var l []api.Insn
	for p := range slices.Chunk(b, 8) {
		i := api.Insn{Op: p[0], A: p[1], B: p[2], C: p[3], Imm: uint32(p[4]) + uint32(p[5])<<8 + uint32(p[6])<<16 + uint32(p[7])<<24}
		if err := modelCheck(i); err != api.OK {
			return nil, err
		}
		l = append(l, i)
	}
	return l, api.OK
}

func wantCheck(t *testing.T, i api.Insn, err api.Errno) {
	t.Helper()
	if e := insn.Check(i); e != err {
		t.Errorf("Check(%v) = %d; want %d", i, e, err)
	}
}

func wantText(t *testing.T, i api.Insn, s string, err api.Errno) {
	t.Helper()
	if r, e := insn.Text(i); r != s || e != err {
		t.Errorf("Text(%v) = %q, %d; want %q, %d", i, r, e, s, err)
	}
}

func wantRead(t *testing.T, s string, i api.Insn, err api.Errno) {
	t.Helper()
	if r, e := insn.Read(s); r != i || e != err {
		t.Errorf("Read(%q) = %v, %d; want %v, %d", s, r, e, i, err)
	}
}

func wantNoText(t *testing.T, texts ...string) {
	t.Helper()
	for _, s := range texts {
		wantRead(t, s, api.Insn{}, api.ErrForm)
	}
}

func wantBytes(t *testing.T, l []api.Insn, b []byte) {
	t.Helper()
	given := slices.Clone(l)
	if r := insn.Bytes(given); !bytes.Equal(r, b) {
		t.Errorf("Bytes(%v) = %v; want %v", l, r, b)
	}
	if !slices.Equal(given, l) {
		t.Errorf("Bytes changed %v to %v", l, given)
	}
}

func wantParse(t *testing.T, b []byte, l []api.Insn, err api.Errno) {
	t.Helper()
	given := bytes.Clone(b)
	if r, e := insn.Parse(given); !slices.Equal(r, l) || e != err {
		t.Errorf("Parse(%v) = %v, %d; want %v, %d", b, r, e, l, err)
	}
	if !bytes.Equal(given, b) {
		t.Errorf("Parse changed %v to %v", b, given)
	}
}

// wantModel asks for all that can be asked of one instruction, valid or not.
func wantModel(t *testing.T, i api.Insn) {
	t.Helper()
	err := modelCheck(i)
	wantCheck(t, i, err)
	wantBytes(t, []api.Insn{i}, modelBytes([]api.Insn{i}))
	if err != api.OK {
		wantText(t, i, "", err)
		wantParse(t, modelBytes([]api.Insn{i}), nil, err)
		return
	}
	s := modelText(i)
	wantText(t, i, s, api.OK)
	wantRead(t, s, i, api.OK)
	wantParse(t, modelBytes([]api.Insn{i}), []api.Insn{i}, api.OK)
}

func wantModelRead(t *testing.T, s string) {
	t.Helper()
	i, err := modelRead(s)
	wantRead(t, s, i, err)
}

func wantModelParse(t *testing.T, b []byte) {
	t.Helper()
	l, err := modelParse(b)
	wantParse(t, b, l, err)
}

// imms are values of Imm at and around the ends of all ranges, of all bytes, and of all counts of digits.
func imms() []uint32 {
	l := []uint32{0, 1, 2, 5, 9, 10, 11, 99, 100, 126, 127, 128, 129, 255, 256, 257, 65535, 65536, 1<<24 - 1, 1 << 24, 1<<31 - 1, 1 << 31, math.MaxUint32 - 1, math.MaxUint32, 0x01020304, 0xfffefdfc}
	for n := uint64(1000); n <= math.MaxUint32; n *= 10 {
		l = append(l, uint32(n-1), uint32(n))
	}
	return l
}

// valid calls see with each valid instruction whose Imm is one of the given.
func valid(imms []uint32, see func(api.Insn)) {
	for op := range 16 {
		row, ok := model[uint8(op)]
		if !ok {
			continue
		}
		for a := range within(row.a, 255) {
			for b := range within(row.b, 255) {
				for c := range within(row.c, 255) {
					for _, imm := range imms {
						i := api.Insn{Op: uint8(op), A: a, B: b, C: c, Imm: imm}
						if modelCheck(i) == api.OK {
							see(i)
						}
					}
				}
			}
		}
	}
}

// within goes through the numbers of a byte's range; an operand that isn't named is 0.
func within(l *limit, most uint32) func(func(uint8) bool) {
	return func(yield func(uint8) bool) {
		if l == nil {
			yield(0)
			return
		}
		for v := l.low; v <= min(l.high, most); v++ {
			if !yield(uint8(v)) {
				return
			}
		}
	}
}

// samples has one valid instruction for each first word and each helper, no two of its operands the same where that can be.
func samples() []api.Insn {
	var l []api.Insn
	for op := range 16 {
		row, ok := model[uint8(op)]
		if !ok {
			continue
		}
		i := api.Insn{Op: uint8(op)}
		if row.a != nil {
			i.A = 1
		}
		if row.b != nil {
			i.B = 2
		}
		if row.imm != nil {
			i.Imm = 5
		}
		if row.c != nil {
			i.C = 3
		}
		if row.names == nil {
			l = append(l, i)
			continue
		}
		for c := range row.names {
			i.C = uint8(c + 1)
			l = append(l, i)
		}
	}
	return l
}
