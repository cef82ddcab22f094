package types_test

import (
	"bytes"
	"encoding/binary"
	"regexp"
	"slices"

	"turnbuckle/api"
)

// fault is a check that a list doesn't pass: round 1 is the checks type by type, round 2 those of Refs types.
type fault struct {
	round, at, check, field, column int
	err                             api.Errno
}

func (f fault) place() []int {
	return []int{f.round, f.at, f.check, f.field, f.column}
}

var isName = regexp.MustCompile(`\A[a-zA-Z0-9_]{1,16}\z`)

// modelCheck is P5.1 said otherwise than the program says it: all faults are gathered, and the first of them counts.
func modelCheck(l []api.Type) (int, api.Errno) {
	if len(l) > 32 {
		return 0, api.ErrSize
	}
	var all []fault
	for i, t := range l {
		all = append(all, typeFaults(l, i)...)
		if t.Refs && modelReaches(l)[i][i] {
			all = append(all, fault{2, i, 0, 0, 0, api.ErrKind})
		}
	}
	if len(all) == 0 {
		return 0, api.OK
	}
	first := slices.MinFunc(all, func(a, b fault) int { return slices.Compare(a.place(), b.place()) })
	return first.at, first.err
}

func typeFaults(l []api.Type, i int) []fault {
	var all []fault
	add := func(bad bool, check, field, column int, err api.Errno) {
		if bad {
			all = append(all, fault{1, i, check, field, column, err})
		}
	}
	t := l[i]
	earlier := slices.ContainsFunc(l[:i], func(o api.Type) bool { return o.Name == t.Name })
	add(earlier || !isName.MatchString(t.Name), 1, 0, 0, api.ErrForm)
	add(len(t.Fields) > 12, 2, 0, 0, api.ErrSize)
	add(t.Value && t.Refs, 3, 0, 0, api.ErrKind)
	for j, f := range t.Fields {
		kind, span, kindAgain := fieldFaults(l, t, f)
		add(kind, 4, j, 1, api.ErrKind)
		add(span, 4, j, 2, api.ErrRange)
		add(kindAgain, 4, j, 3, api.ErrKind)
	}
	locks := count(t, api.FieldLock)
	add(locks > 1 || locks != 1 && count(t, api.FieldList)+count(t, api.FieldTree) > 0, 5, 0, 0, api.ErrLock)
	add(modelSize(t) > 256, 6, 0, 0, api.ErrSize)
	return all
}

func count(t api.Type, kind int) int {
	n := 0
	for _, f := range t.Fields {
		if f.Kind == kind {
			n++
		}
	}
	return n
}

// fieldFaults is a row of the chapter's table, column by column.
func fieldFaults(l []api.Type, owner api.Type, f api.Field) (kind, span, kindAgain bool) {
	target, outside := api.Type{}, f.Type < 0 || f.Type > len(l)-1
	if !outside {
		target = l[f.Type]
	}
	named := func(i, kind int) bool {
		return i >= 0 && i < len(target.Fields) && target.Fields[i].Kind == kind
	}
	switch f.Kind {
	case api.FieldScalar:
		return f.Type != 0 || f.Link != 0 || f.Key != 0, f.Len < 1 || f.Len > 16, false
	case api.FieldPtr:
		return f.Len != 0 || f.Link != 0 || f.Key != 0, outside, target.Value
	case api.FieldNode, api.FieldLeaf:
		return f != api.Field{Kind: f.Kind} || owner.Value, false, false
	case api.FieldList:
		return f.Len != 0 || f.Key != 0 || !owner.Value, outside, target.Value || !named(f.Link, api.FieldNode)
	case api.FieldTree:
		return f.Len != 0 || !owner.Value, outside, target.Value || target.Refs || !named(f.Link, api.FieldLeaf) || !named(f.Key, api.FieldScalar)
	case api.FieldLock:
		return f != api.Field{Kind: f.Kind} || !owner.Value, false, false
	}
	return true, false, false
}

func modelSize(t api.Type) int {
	return 8 + 8*scalars(t) + 8*count(t, api.FieldPtr) + 16*count(t, api.FieldNode) + 24*count(t, api.FieldLeaf) +
		8*count(t, api.FieldList) + 8*count(t, api.FieldTree) + 8*count(t, api.FieldLock)
}

func scalars(t api.Type) int {
	n := 0
	for _, f := range t.Fields {
		if f.Kind == api.FieldScalar {
			n += f.Len
		}
	}
	return n
}

// modelReaches tells for each pair of types whether a way of one pointer or more leads from the first to the second: the ways that may pass by one type after the other are added.
func modelReaches(l []api.Type) [32][32]bool {
	var way [32][32]bool
	for i, t := range l {
		for _, f := range t.Fields {
			if f.Kind == api.FieldPtr && f.Type >= 0 && f.Type < len(l) {
				way[i][f.Type] = true
			}
		}
	}
	for by := range l {
		for from := range l {
			for to := range l {
				way[from][to] = way[from][to] || way[from][by] && way[by][to]
			}
		}
	}
	return way
}

// modelBytes is P5.3's encoding, of types that may be and of others, by the library's own LEB128.
func modelBytes(l []api.Type) []byte {
	b := number(len(l))
	for _, t := range l {
		b = append(b, encodeType(t)...)
	}
	return b
}

func encodeType(t api.Type) []byte {
	flags := 0
	if t.Value {
		flags = 1
	}
	if t.Refs {
		flags += 2
	}
	numbers := []int{flags}
	for _, f := range t.Fields {
		numbers = append(numbers, f.Kind, f.Len, f.Type, f.Link, f.Key)
	}
	return slices.Concat(text(t.Name), ints(numbers...))
}

func number(n int) []byte {
	return binary.AppendUvarint(nil, uint64(n))
}

func text(s string) []byte {
	return append(number(len(s)), s...)
}

func ints(l ...int) []byte {
	b := number(len(l))
	for _, n := range l {
		b = append(b, number(n)...)
	}
	return b
}

// reader reads byte by byte, and stops at the first error by a panic with it.
type reader struct {
	b  []byte
	at int
}

func (r *reader) must(ok bool, err api.Errno) {
	if !ok {
		panic(err)
	}
}

func (r *reader) number() uint64 {
	rest := r.b[r.at:]
	final := slices.IndexFunc(rest, func(v byte) bool { return v < 128 })
	r.must(len(rest) < 10 || final >= 0 && final < 10, api.ErrForm)
	r.must(final >= 0, api.ErrShort)
	r.must(final == 0 || rest[final] != 0, api.ErrForm)
	r.must(final < 9 || rest[9] <= 1, api.ErrRange)
	n, _ := binary.Uvarint(rest)
	r.at += final + 1
	return n
}

func (r *reader) text() string {
	length := r.number()
	r.must(length >= 1 && length <= 16, api.ErrForm)
	r.must(uint64(len(r.b)-r.at) >= length, api.ErrShort)
	s := string(r.b[r.at : r.at+int(length)])
	r.must(isName.MatchString(s), api.ErrForm)
	r.at += len(s)
	return s
}

func (r *reader) ints() []int {
	length := r.number()
	r.must(length <= 1000, api.ErrSize)
	var l []int
	for range length {
		n := r.number()
		r.must(n <= 2147483647, api.ErrRange)
		l = append(l, int(n))
	}
	return l
}

func (r *reader) typ() api.Type {
	t := api.Type{Name: r.text()}
	l := r.ints()
	r.must(len(l) > 0 && (len(l)-1)%5 == 0 && l[0] <= 3, api.ErrForm)
	t.Value = l[0] == 1 || l[0] == 3
	t.Refs = l[0] == 2 || l[0] == 3
	for i := 1; i < len(l); i += 5 {
		t.Fields = append(t.Fields, api.Field{Kind: l[i], Len: l[i+1], Type: l[i+2], Link: l[i+3], Key: l[i+4]})
	}
	return t
}

// modelParse is P5.3 of Parse, in the order of the bytes.
func modelParse(b []byte) (l []api.Type, width int, err api.Errno) {
	defer func() {
		if e, ok := recover().(api.Errno); ok {
			l, width, err = nil, 0, e
		}
	}()
	r := &reader{b: bytes.Clone(b)}
	n := r.number()
	r.must(n <= 32, api.ErrSize)
	for range n {
		l = append(l, r.typ())
	}
	_, err = modelCheck(l)
	r.must(err == api.OK, err)
	return l, r.at, api.OK
}
