package insn_test

import (
	"strings"
	"testing"

	"turnbuckle/api"
	"turnbuckle/insn"
)

// P6.3: the texts of the chapter's table, and of its examples.
func TestText(t *testing.T) {
	for _, c := range []struct {
		i api.Insn
		s string
	}{
		{api.Insn{Op: api.OpMov, A: 1, B: 2}, "mov r1 r2"},
		{api.Insn{Op: api.OpImm, A: 1, Imm: 5}, "imm r1 5"},
		{api.Insn{Op: api.OpAlu, A: 1, B: 2, C: api.AluAdd}, "add r1 r2"},
		{api.Insn{Op: api.OpAluI, A: 1, C: api.AluAdd, Imm: 5}, "addi r1 5"},
		{api.Insn{Op: api.OpJmp, Imm: 3}, "jmp +3"},
		{api.Insn{Op: api.OpJcc, A: 1, B: 2, C: api.CondEq, Imm: 3}, "jeq r1 r2 +3"},
		{api.Insn{Op: api.OpJccI, A: 1, C: api.CondEq, Imm: 3}, "jeqi r1 0 +3"},
		{api.Insn{Op: api.OpSave, A: 1, C: 3}, "save s3 r1"},
		{api.Insn{Op: api.OpLoad, A: 1, C: 3}, "load r1 s3"},
		{api.Insn{Op: api.OpGet, A: 1, B: 2, Imm: 5}, "get r1 r2 f0 5"},
		{api.Insn{Op: api.OpGetX, A: 1, B: 2, Imm: 5}, "getx r1 r2 f0 r5"},
		{api.Insn{Op: api.OpPut, A: 1, B: 2, Imm: 5}, "put r2 f0 5 r1"},
		{api.Insn{Op: api.OpPutX, A: 1, B: 2, Imm: 5}, "putx r2 f0 r5 r1"},
		{api.Insn{Op: api.OpCall, C: api.CallNew, Imm: 5}, "call new 5"},
		{api.Insn{Op: api.OpExit}, "exit"},
		// The ends of the ranges.
		{api.Insn{Op: api.OpMov}, "mov r0 r0"},
		{api.Insn{Op: api.OpMov, A: 9}, "mov r9 r0"},
		{api.Insn{Op: api.OpImm, A: 9, Imm: 1<<32 - 1}, "imm r9 4294967295"},
		{api.Insn{Op: api.OpImm}, "imm r0 0"},
		{api.Insn{Op: api.OpImm, Imm: 1 << 31}, "imm r0 2147483648"},
		{api.Insn{Op: api.OpJmp, Imm: 1}, "jmp +1"},
		{api.Insn{Op: api.OpJmp, Imm: 127}, "jmp +127"},
		{api.Insn{Op: api.OpJccI, A: 9, B: 255, C: api.CondSet, Imm: 127}, "jseti r9 255 +127"},
		{api.Insn{Op: api.OpJcc, A: 9, B: 8, C: api.CondSlt, Imm: 100}, "jslt r9 r8 +100"},
		{api.Insn{Op: api.OpSave, A: 9, C: 7}, "save s7 r9"},
		{api.Insn{Op: api.OpLoad}, "load r0 s0"},
		{api.Insn{Op: api.OpGet, A: 9, B: 8, C: 11, Imm: 1<<32 - 1}, "get r9 r8 f11 4294967295"},
		{api.Insn{Op: api.OpPutX, A: 9, B: 8, C: 10, Imm: 7}, "putx r8 f10 r7 r9"},
		{api.Insn{Op: api.OpCall, C: api.CallRcuUnlock}, "call rcuunlock 0"},
	} {
		wantText(t, c.i, c.s, api.OK)
		wantRead(t, c.s, c.i, api.OK)
		wantModel(t, c.i)
	}
}

// P6.3: every mnemonic, by the name of its number.
func TestMnemonics(t *testing.T) {
	for c, s := range map[uint8]string{
		api.AluAdd: "add", api.AluSub: "sub", api.AluMul: "mul", api.AluDiv: "div", api.AluMod: "mod", api.AluAnd: "and",
		api.AluOr: "or", api.AluXor: "xor", api.AluShl: "shl", api.AluShr: "shr", api.AluSar: "sar",
	} {
		wantModel(t, api.Insn{Op: api.OpAlu, C: c})
		wantText(t, api.Insn{Op: api.OpAlu, A: 1, B: 2, C: c}, s+" r1 r2", api.OK)
		wantRead(t, s+" r1 r2", api.Insn{Op: api.OpAlu, A: 1, B: 2, C: c}, api.OK)
		wantText(t, api.Insn{Op: api.OpAluI, A: 1, C: c, Imm: 2}, s+"i r1 2", api.OK)
		wantRead(t, s+"i r1 2", api.Insn{Op: api.OpAluI, A: 1, C: c, Imm: 2}, api.OK)
		wantNoText(t, "j"+s+" r1 r2 +3", "j"+s+"i r1 2 +3", "call "+s+" 0", s, s+"i", s+"ii r1 2", s+"i r1 r2", s+" r1 2")
	}
	for c, s := range map[uint8]string{
		api.CondEq: "eq", api.CondNe: "ne", api.CondLt: "lt", api.CondLe: "le", api.CondGt: "gt", api.CondGe: "ge",
		api.CondSlt: "slt", api.CondSge: "sge", api.CondSet: "set",
	} {
		wantText(t, api.Insn{Op: api.OpJcc, A: 1, B: 2, C: c, Imm: 3}, "j"+s+" r1 r2 +3", api.OK)
		wantRead(t, "j"+s+" r1 r2 +3", api.Insn{Op: api.OpJcc, A: 1, B: 2, C: c, Imm: 3}, api.OK)
		wantText(t, api.Insn{Op: api.OpJccI, A: 1, B: 2, C: c, Imm: 3}, "j"+s+"i r1 2 +3", api.OK)
		wantRead(t, "j"+s+"i r1 2 +3", api.Insn{Op: api.OpJccI, A: 1, B: 2, C: c, Imm: 3}, api.OK)
		wantNoText(t, s+" r1 r2 +3", s+"i r1 2 +3", s+" r1 r2", s+"i r1 2", "call "+s+" 0", "j"+s, "jj"+s+" r1 r2 +3", "j"+s+"ii r1 2 +3", "j"+s+"i r1 r2 +3", "j"+s+" r1 2 +3")
	}
	for c, s := range map[uint8]string{
		api.CallNew: "new", api.CallDrop: "drop", api.CallAcquire: "acquire", api.CallLookup: "lookup", api.CallInsert: "insert", api.CallDelete: "delete",
		api.CallLock: "lock", api.CallUnlock: "unlock", api.CallPushFront: "pushfront", api.CallPushBack: "pushback", api.CallPopFront: "popfront", api.CallPopBack: "popback",
		api.CallFront: "front", api.CallTreeAdd: "treeadd", api.CallTreeFirst: "treefirst", api.CallTreeLeft: "treeleft", api.CallTreeRight: "treeright", api.CallTreeGone: "treegone",
		api.CallSwap: "swap", api.CallPeek: "peek", api.CallRcuLock: "rculock", api.CallRcuUnlock: "rcuunlock",
	} {
		wantText(t, api.Insn{Op: api.OpCall, C: c, Imm: 4}, "call "+s+" 4", api.OK)
		wantRead(t, "call "+s+" 4", api.Insn{Op: api.OpCall, C: c, Imm: 4}, api.OK)
		wantNoText(t, s, s+" 4", "call "+s, "call "+s+" 4 4", "call "+s+"i 4", "call j"+s+" 4", "call "+s+" r4", "call "+s+" +4")
	}
}

// P6.3: Text has the error of Check.
func TestTextErrors(t *testing.T) {
	for _, c := range []struct {
		i   api.Insn
		err api.Errno
	}{
		{api.Insn{}, api.ErrForm},
		{api.Insn{Op: 16}, api.ErrForm},
		{api.Insn{Op: 255, A: 255, B: 255, C: 255, Imm: 1<<32 - 1}, api.ErrForm},
		{api.Insn{Op: api.OpMov, A: 10, C: 1}, api.ErrRange},
		{api.Insn{Op: api.OpMov, C: 1}, api.ErrArg},
		{api.Insn{Op: api.OpAlu}, api.ErrRange},
		{api.Insn{Op: api.OpAlu, C: 255}, api.ErrRange},
		{api.Insn{Op: api.OpAluI, C: 12}, api.ErrRange},
		{api.Insn{Op: api.OpJcc, C: 255, Imm: 1}, api.ErrRange},
		{api.Insn{Op: api.OpJccI, Imm: 1}, api.ErrRange},
		{api.Insn{Op: api.OpCall, C: 255}, api.ErrRange},
		{api.Insn{Op: api.OpCall}, api.ErrRange},
		{api.Insn{Op: api.OpExit, Imm: 1}, api.ErrArg},
	} {
		wantText(t, c.i, "", c.err)
	}
}

// P6.3: numbers that are written otherwise than Text writes them, at each place where a number can stand.
func TestReadOfWrongNumbers(t *testing.T) {
	wrong := []string{"", "00", "01", "007", "+1", "-1", "-0", "+", "-", "1.0", "1e1", "0x1", "0b1", "1_0", "_1", "1_", "a", "x5", "5x", "r", "r1r", "4294967296", "4294967301", "18446744073709551615", "18446744073709551616", "18446744073709551617",
		strings.Repeat("9", 400), strings.Repeat("0", 400), "\uff11", "\u0661", "1\x00", "\x001", "1\n", "1\t", "1\r", "\n1", "1\u00a0", "\xff", "\u22121"}
	places := []string{"mov r# r2", "mov r1 r#", "imm r# 5", "imm r1 #", "add r# r2", "add r1 r#", "addi r# 5", "addi r1 #", "jmp +#", "jmp #",
		"jeq r# r2 +3", "jeq r1 r# +3", "jeq r1 r2 +#", "jeqi r# 0 +3", "jeqi r1 # +3", "jeqi r1 0 +#", "save s# r1", "save s3 r#", "load r# s3", "load r1 s#",
		"get r# r2 f0 5", "get r1 r# f0 5", "get r1 r2 f# 5", "get r1 r2 f0 #", "getx r# r2 f0 r5", "getx r1 r# f0 r5", "getx r1 r2 f# r5", "getx r1 r2 f0 r#",
		"put r# f0 5 r1", "put r2 f# 5 r1", "put r2 f0 # r1", "put r2 f0 5 r#", "putx r# f0 r5 r1", "putx r2 f# r5 r1", "putx r2 f0 r# r1", "putx r2 f0 r5 r#", "call new #"}
	for _, place := range places {
		for _, n := range wrong {
			if place == "jmp #" && n == "+1" {
				wantRead(t, "jmp +1", api.Insn{Op: api.OpJmp, Imm: 1}, api.OK)
				continue
			}
			wantNoText(t, strings.Replace(place, "#", n, 1))
		}
		for _, n := range strings.Fields("0 1 7 8 9 10 11 12 15 99 100 127 128 255 256 257 65536 1000000000 4294967294 4294967295") {
			wantModelRead(t, strings.Replace(place, "#", n, 1))
		}
	}
}

// P6.3: words that are missing, too many, empty, in capitals, or of another operand; and first words that are none.
func TestReadOfWrongWords(t *testing.T) {
	wantNoText(t, "", " ", "  ", "\n", "\x00", "i", "j", "ji", "+", "r1", "0", "none", "i r1 5", "j r1 r2 +1", "ji r1 2 +1", "j+ 1",
		"jmpi +3", "movi r1 5", "immi r1 5", "exiti", "calls new 5", "xget r1 r2 f0 5", "getxx r1 r2 f0 r5", "puti r2 f0 5 r1",
		"mov r2", "mov r1 s2", "mov s1 r2", "mov 1 2", "mov r1 f2", "mov r1, r2", "mov r1,r2", "movr1 r2", "mov rr1 r2", "mov R1 r2", "mov r1 r2;",
		"imm 5 r1", "imm r1 r5", "imm r1 +5", "imm r1 f5", "add r1 5", "addi r1 r5", "add r2 r1 r0",
		"jmp 3", "jmp r3", "jmp +0", "jmp +128", "jmp -3", "jmp ++3", "jmp + 3", "jmp + ", "jmp +",
		"jeq r1 0 +3", "jeqi r1 r0 +3", "jeq r1 r2 3", "jeqi r1 0 3", "jeqi r1 256 +3", "jeqi r1 +0 +3", "jeqi r1 -1 +3",
		"save r1 s3", "load s3 r1", "save s8 r1", "load r1 s8", "save 3 r1", "load r1 3", "save s3 s1", "load r1 r3", "save f3 r1",
		"get r1 f0 r2 5", "get r1 r2 0 5", "get r1 r2 s0 5", "get r1 r2 f12 5", "get r1 r2 f0 r5", "getx r1 r2 f0 5", "getx r1 r2 f0 r10",
		"put r1 r2 f0 5", "put r2 f0 r5 r1", "putx r2 f0 5 r1", "put r2 f0 5 1", "put r2 f12 5 r1",
		"call", "call new", "call none 1", "call 1 5", "call new r5", "call 5 new", "call  5", "call new new", "call i 5", "call\x00new 5",
		"exit 1", "exit exit", "exit r0", "exit;", "Exit")
	for _, i := range samples() {
		s := modelText(i)
		words := strings.Split(s, " ")
		wantNoText(t, strings.ToUpper(s), strings.ToUpper(s[:1])+s[1:], s+" ", " "+s, s+"  ", "\t"+s, s+"\n", s+"\r\n", "\ufeff"+s, s+"\x00", s+" r0", s+" 0", s+" "+s, s+";", "#"+s)
		for at, w := range words {
			rest := append(words[:at:at], words[at+1:]...)
			wantNoText(t, strings.Join(rest, " "))
			for _, other := range []string{"", strings.ToUpper(w), w + " " + w, w + "x", "x" + w, w + "\x00"} {
				if other == w {
					continue
				}
				wantModelRead(t, strings.Join(append(append(words[:at:at], other), words[at+1:]...), " "))
			}
			for first := range at {
				swapped := append([]string{}, words...)
				swapped[first], swapped[at] = swapped[at], swapped[first]
				wantModelRead(t, strings.Join(swapped, " "))
			}
		}
	}
}

// P6.3: between two words stands one blank, and nothing else.
func TestReadOfWrongBlanks(t *testing.T) {
	for _, i := range samples() {
		s := modelText(i)
		for at := range s {
			if s[at] != ' ' {
				continue
			}
			for _, between := range []string{"", "  ", "   ", "\t", "\n", "\r", "\v", "\f", "\u00a0", "\u0085", "\u2003", "\u3000", "\x00", ",", ", ", "_", "+", "\t ", " \t", " \n"} {
				wantNoText(t, s[:at]+between+s[at+1:])
			}
		}
		wantNoText(t, strings.ReplaceAll(s, " ", "  ")+" ", strings.ReplaceAll(s, " ", "\t")+"\t")
	}
}

// P6.3: each byte of texts left out, replaced or followed by others; and texts cut off.
func TestReadOfOneByteChanged(t *testing.T) {
	letters := "\x00\t\n +-_,.0123456789abcdefgijklmnoprstuvwxyzARS\x7f\x80\xff"
	for _, i := range samples() {
		s := modelText(i)
		for at := range len(s) + 1 {
			wantModelRead(t, s[:at])
			wantModelRead(t, s[at:])
			for _, v := range []byte(letters) {
				wantModelRead(t, s[:at]+string([]byte{v})+s[at:])
				if at < len(s) {
					wantModelRead(t, s[:at]+string([]byte{v})+s[at+1:])
				}
			}
			if at < len(s) {
				wantModelRead(t, s[:at]+s[at+1:])
			}
		}
	}
}

// P6.3: all short sequences of chosen words.
func TestReadOfAllShortTexts(t *testing.T) {
	firsts := strings.Fields("mov imm or subi jmp jne jgei save load get getx put putx call exit new r0")
	words := []string{"", "r0", "r9", "r10", "s7", "f11", "0", "255", "+127", "peek"}
	var extend func(s string, more int)
	extend = func(s string, more int) {
		wantModelRead(t, s)
		if more == 0 {
			return
		}
		for _, w := range words {
			extend(s+" "+w, more-1)
		}
	}
	for _, first := range firsts {
		extend(first, 4)
	}
}

// P6.3, P1: long texts end, too.
func TestReadOfLongTexts(t *testing.T) {
	for _, s := range []string{"mov", " ", "mov ", "r1 ", "9", "+", "\xff", "call new 5 "} {
		wantNoText(t, strings.Repeat(s, 100000), "mov r1 r2"+strings.Repeat(s, 100000), "imm r1 "+strings.Repeat(s, 100000))
	}
}

// P6.4: no two valid instructions have one text, and each is read as what it was written from.
func TestReadOfWhatWasWritten(t *testing.T) {
	written := map[string]api.Insn{}
	valid(imms(), func(i api.Insn) {
		s, err := insn.Text(i)
		if err != api.OK || s != modelText(i) {
			t.Fatalf("Text(%v) = %q, %d; want %q", i, s, err, modelText(i))
		}
		if other, again := written[s]; again {
			t.Fatalf("%v and %v have the text %q", other, i, s)
		}
		written[s] = i
		if r, err := insn.Read(s); r != i || err != api.OK {
			t.Fatalf("%v was written as %q, read as %v, %d", i, s, r, err)
		}
	})
	if len(written) < 100000 {
		t.Errorf("only %d texts were asked", len(written))
	}
}
