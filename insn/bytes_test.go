package insn_test

import (
	"bytes"
	"slices"
	"testing"

	"turnbuckle/api"
	"turnbuckle/insn"
)

// P6.2: encodings, byte by byte.
func TestBytes(t *testing.T) {
	for _, c := range []struct {
		l []api.Insn
		b []byte
	}{
		{nil, nil},
		{[]api.Insn{}, nil},
		{[]api.Insn{{Op: api.OpExit}}, []byte{15, 0, 0, 0, 0, 0, 0, 0}},
		{[]api.Insn{{Op: api.OpMov, A: 1, B: 2}}, []byte{1, 1, 2, 0, 0, 0, 0, 0}},
		{[]api.Insn{{Op: api.OpPut, A: 1, B: 2, C: 3, Imm: 0x04050607}}, []byte{12, 1, 2, 3, 7, 6, 5, 4}},
		{[]api.Insn{{Op: api.OpImm, A: 9, Imm: 1<<32 - 1}, {Op: api.OpExit}}, []byte{2, 9, 0, 0, 255, 255, 255, 255, 15, 0, 0, 0, 0, 0, 0, 0}},
		{[]api.Insn{{Op: api.OpImm, Imm: 256}}, []byte{2, 0, 0, 0, 0, 1, 0, 0}},
		{[]api.Insn{{Op: api.OpImm, Imm: 1 << 31}}, []byte{2, 0, 0, 0, 0, 0, 0, 128}},
		{[]api.Insn{{Op: api.OpCall, C: 22, Imm: 1}, {Op: api.OpJmp, Imm: 127}}, []byte{14, 0, 0, 22, 1, 0, 0, 0, 5, 0, 0, 0, 127, 0, 0, 0}},
	} {
		wantBytes(t, c.l, c.b)
		wantParse(t, c.b, c.l, api.OK)
	}
}

// P6.2: Bytes checks neither the instructions nor how many there are.
func TestBytesOfWhatIsNotValid(t *testing.T) {
	for _, c := range []struct {
		i api.Insn
		b []byte
	}{
		{api.Insn{}, []byte{0, 0, 0, 0, 0, 0, 0, 0}},
		{api.Insn{Op: 16}, []byte{16, 0, 0, 0, 0, 0, 0, 0}},
		{api.Insn{Op: 255, A: 254, B: 253, C: 252, Imm: 0xfbfaf9f8}, []byte{255, 254, 253, 252, 248, 249, 250, 251}},
		{api.Insn{Op: api.OpMov, A: 10}, []byte{1, 10, 0, 0, 0, 0, 0, 0}},
		{api.Insn{Op: api.OpExit, Imm: 1}, []byte{15, 0, 0, 0, 1, 0, 0, 0}},
	} {
		wantBytes(t, []api.Insn{c.i}, c.b)
		wantBytes(t, []api.Insn{{Op: api.OpExit}, c.i}, append([]byte{15, 0, 0, 0, 0, 0, 0, 0}, c.b...))
	}
	for _, n := range []int{129, 1000} {
		l := slices.Repeat([]api.Insn{{Op: 77, Imm: 258}}, n)
		wantBytes(t, l, bytes.Repeat([]byte{77, 0, 0, 0, 2, 1, 0, 0}, n))
	}
}

// P6.2: programs of all lengths, and their parts.
func TestParseOfHowMany(t *testing.T) {
	exit := api.Insn{Op: api.OpExit}
	for n := range 140 {
		l := slices.Repeat([]api.Insn{exit}, n)
		if n > 0 {
			l[0], l[n-1] = api.Insn{Op: api.OpImm, A: 3, Imm: uint32(n)}, api.Insn{Op: api.OpJmp, Imm: 7}
		}
		b := modelBytes(l)
		if n <= 128 {
			wantParse(t, b, l, api.OK)
		} else {
			wantParse(t, b, nil, api.ErrSize)
		}
		for more := 1; more < 8; more++ {
			wantParse(t, append(b, make([]byte, more)...), nil, api.ErrForm)
		}
	}
	wantParse(t, modelBytes(slices.Repeat([]api.Insn{exit}, 384)), nil, api.ErrSize) // 128, if only a byte of it were asked
	wantParse(t, modelBytes(slices.Repeat([]api.Insn{exit}, 256)), nil, api.ErrSize)
	wantParse(t, nil, nil, api.OK)
	wantParse(t, []byte{}, nil, api.OK)
}

// P6.2: the first error that applies.
func TestParseInOrder(t *testing.T) {
	form, outside, more, exit := api.Insn{}, api.Insn{Op: api.OpMov, A: 10, C: 1}, api.Insn{Op: api.OpMov, C: 1}, api.Insn{Op: api.OpExit}
	for _, c := range []struct {
		l   []api.Insn
		err api.Errno
	}{
		{[]api.Insn{form}, api.ErrForm},
		{[]api.Insn{outside}, api.ErrRange},
		{[]api.Insn{more}, api.ErrArg},
		{[]api.Insn{form, outside, more}, api.ErrForm},
		{[]api.Insn{outside, more, form}, api.ErrRange},
		{[]api.Insn{more, form, outside}, api.ErrArg},
		{[]api.Insn{exit, more, form}, api.ErrArg},
		{[]api.Insn{exit, outside, form, more}, api.ErrRange},
		{[]api.Insn{exit, exit, form, more}, api.ErrForm},
		{append(slices.Repeat([]api.Insn{exit}, 127), more), api.ErrArg},
		{append(slices.Repeat([]api.Insn{exit}, 127), outside), api.ErrRange},
		{append(slices.Repeat([]api.Insn{exit}, 127), form), api.ErrForm},
		{append(slices.Repeat([]api.Insn{exit}, 128), form), api.ErrSize},
		{slices.Repeat([]api.Insn{form}, 129), api.ErrSize},
		{slices.Repeat([]api.Insn{more}, 129), api.ErrSize},
		{append([]api.Insn{outside}, slices.Repeat([]api.Insn{exit}, 128)...), api.ErrSize},
	} {
		b := modelBytes(c.l)
		wantParse(t, b, nil, c.err)
		for less := 1; less < 8; less++ {
			wantParse(t, b[:len(b)-less], nil, api.ErrForm)
		}
	}
	for n := range 8 * 131 {
		want := api.ErrForm
		if n%8 == 0 && n > 8*128 {
			want = api.ErrSize
		}
		if n > 0 {
			wantParse(t, make([]byte, n), nil, want)
		}
		wantModelParse(t, bytes.Repeat([]byte{1}, n))
	}
}

// P6.2: each byte of a program, replaced by each other byte.
func TestParseOfOneByteChanged(t *testing.T) {
	b := modelBytes(samples())
	for at := range b {
		for v := range 256 {
			changed := bytes.Clone(b)
			changed[at] = byte(v)
			wantModelParse(t, changed)
		}
	}
}

// P6.4: what was encoded comes back unchanged, as long as all of it is valid.
func TestParseOfWhatWasEncoded(t *testing.T) {
	var l []api.Insn
	valid(imms(), func(i api.Insn) {
		l = append(l, i)
	})
	for part := range slices.Chunk(l, 128) {
		b := insn.Bytes(part)
		if !bytes.Equal(b, modelBytes(part)) {
			t.Fatalf("Bytes(%v) = %v", part, b)
		}
		if again, err := insn.Parse(b); err != api.OK || !slices.Equal(again, part) {
			t.Fatalf("%v came back as %v, %d", part, again, err)
		}
	}
}

// R3, R4: an answer is the caller's own, and no later call sees what became of it.
func TestAnswersAreNew(t *testing.T) {
	l := samples()
	b := insn.Bytes(l)
	given := bytes.Clone(b)
	first, _ := insn.Parse(given)
	clear(given)
	if !slices.Equal(first, l) {
		t.Errorf("parsed instructions changed with the bytes: %v", first)
	}
	clear(first[:cap(first)])
	wantParse(t, b, l, api.OK)
	clear(b[:cap(b)])
	wantBytes(t, l, modelBytes(l))
}
