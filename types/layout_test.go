package types_test

import (
	"math"
	"slices"
	"testing"

	"turnbuckle/api"
	"turnbuckle/types"
)

func wantLayout(t *testing.T, of api.Type, places []int, size int, err api.Errno) {
	t.Helper()
	given := api.Type{Name: of.Name, Value: of.Value, Refs: of.Refs, Fields: slices.Clone(of.Fields)}
	p, n, e := types.Layout(given)
	if !slices.Equal(p, places) || n != size || e != err {
		t.Errorf("Layout(%v) = %v, %d, %d; want %v, %d, %d", of, p, n, e, places, size, err)
	}
	if !equalType(given, of) {
		t.Errorf("Layout changed %v to %v", of, given)
	}
}

// P5.2: a field's size, by the place of the field behind it.
func TestLayoutOfEachKind(t *testing.T) {
	for kind, size := range map[int]int{api.FieldPtr: 8, api.FieldNode: 16, api.FieldLeaf: 24, api.FieldList: 8, api.FieldTree: 8, api.FieldLock: 8} {
		f := api.Field{Kind: kind}
		wantLayout(t, plain("a", f), []int{8}, 8+size, api.OK)
		wantLayout(t, plain("a", f, f, scalar(1)), []int{8, 8 + size, 8 + 2*size}, 16+2*size, api.OK)
		wantLayout(t, plain("a", scalar(1), f, f), []int{8, 16, 16 + size}, 16+2*size, api.OK)
	}
	for n := 1; n <= 16; n++ {
		wantLayout(t, plain("a", scalar(n)), []int{8}, 8+8*n, api.OK)
		wantLayout(t, plain("a", node(), scalar(n), leaf()), []int{8, 24, 24 + 8*n}, 48+8*n, api.OK)
	}
}

// P5.2
func TestLayoutOfHowManyFields(t *testing.T) {
	wantLayout(t, api.Type{}, nil, 8, api.OK)
	wantLayout(t, api.Type{Fields: fields{}}, nil, 8, api.OK)
	for n := range 13 {
		var places []int
		for i := range n {
			places = append(places, 8+16*i)
		}
		wantLayout(t, plain("a", repeat(n, node())...), places, 8+16*n, api.OK)
	}
	for _, n := range []int{13, 14, 100, 5000} {
		wantLayout(t, plain("a", repeat(n, ptr(0))...), nil, 0, api.ErrSize)
		wantLayout(t, plain("a", repeat(n, api.Field{})...), nil, 0, api.ErrSize) // ahead of ErrKind
		wantLayout(t, plain("a", repeat(n, scalar(17))...), nil, 0, api.ErrSize)  // ahead of ErrKind
		wantLayout(t, plain("a", repeat(n, scalar(16))...), nil, 0, api.ErrSize)
	}
}

// P5.2: what a field is refused for, at each place, and ahead of a size that is too great.
func TestLayoutOfWrongFields(t *testing.T) {
	wrong := fields{{}, {Kind: -1}, {Kind: 8}, {Kind: 8, Len: 1}, {Kind: math.MaxInt}, {Kind: math.MinInt}, {Kind: 1 << 32, Len: 1}, {Kind: 1<<32 + 2}, scalar(0), scalar(17)}
	for _, n := range outside() {
		wrong = append(wrong, scalar(n))
	}
	wrong = append(wrong, scalar(1<<61), scalar(1<<61+1), scalar(-1<<61))
	for _, f := range wrong {
		wantLayout(t, plain("a", f), nil, 0, api.ErrKind)
		for at := range 12 {
			small, great := repeat(12, scalar(1)), repeat(12, scalar(16))
			small[at], great[at] = f, f
			wantLayout(t, plain("a", small...), nil, 0, api.ErrKind)
			wantLayout(t, plain("a", great...), nil, 0, api.ErrKind)
		}
	}
}

// P5.2: sizes of 256 and above.
func TestLayoutOfSizes(t *testing.T) {
	wantLayout(t, plain("a", scalar(16), scalar(15)), []int{8, 136}, 256, api.OK)
	wantLayout(t, plain("a", scalar(15), scalar(16)), []int{8, 128}, 256, api.OK)
	wantLayout(t, plain("a", scalar(16), scalar(16)), nil, 0, api.ErrSize)
	wantLayout(t, plain("a", scalar(16), leaf(), leaf(), leaf(), node(), node(), ptr(0), ptr(0)), []int{8, 136, 160, 184, 208, 224, 240, 248}, 256, api.OK)
	wantLayout(t, plain("a", scalar(16), leaf(), leaf(), leaf(), node(), node(), node(), ptr(0)), nil, 0, api.ErrSize)
	wantLayout(t, plain("a", repeat(10, leaf())...), []int{8, 32, 56, 80, 104, 128, 152, 176, 200, 224}, 248, api.OK)
	wantLayout(t, plain("a", repeat(11, leaf())...), nil, 0, api.ErrSize)
	wantLayout(t, plain("a", repeat(12, scalar(16))...), nil, 0, api.ErrSize)
}

// P5.2: Layout makes no other checks: of names, of flags, of locks, of what a field leads to.
func TestLayoutChecksNothingElse(t *testing.T) {
	for _, name := range []string{"", "-", "abcdefghijklmnopq"} {
		wantLayout(t, api.Type{Name: name, Value: true, Refs: true, Fields: fields{lock(), lock(), node()}}, []int{8, 16, 24}, 40, api.OK)
	}
	wantLayout(t, plain("a", lock(), listOf(9, 9), treeOf(-1, -2, -3)), []int{8, 16, 24}, 32, api.OK)
	for _, n := range outside() {
		for kind := 1; kind <= 7; kind++ {
			f := api.Field{Kind: kind, Len: n, Type: n, Link: n, Key: n}
			if kind == api.FieldScalar {
				f.Len = 3
			}
			_, size, _ := types.Layout(plain("a", api.Field{Kind: kind, Len: 3}))
			wantLayout(t, plain("a", f, f), []int{8, size}, 2*size-8, api.OK)
		}
	}
}

// P5.2, and of P5.4 that fields don't overlap and lie after the head: all types of four chosen fields.
func TestLayoutOfAllSmallTypes(t *testing.T) {
	some := fields{scalar(1), scalar(7), scalar(16), ptr(3), node(), leaf(), listOf(1, 1), treeOf(1, 2, 3), lock(), scalar(17), {Kind: 9}}
	for _, a := range some {
		for _, b := range some {
			for _, c := range some {
				for _, d := range some {
					layoutOne(t, plain("a", a, b, c, d))
				}
			}
		}
	}
}

func layoutOne(t *testing.T, of api.Type) {
	t.Helper()
	unknown := slices.ContainsFunc(of.Fields, func(f api.Field) bool { return f.Kind == 9 || f.Len == 17 })
	switch {
	case unknown:
		wantLayout(t, of, nil, 0, api.ErrKind)
		return
	case modelSize(of) > 256:
		wantLayout(t, of, nil, 0, api.ErrSize)
		return
	}
	places, size, err := types.Layout(of)
	if err != api.OK || len(places) != len(of.Fields) || size != modelSize(of) {
		t.Errorf("Layout(%v) = %v, %d, %d", of, places, size, err)
		return
	}
	owner := make([]int, size)
	for i, at := range places {
		for k := range modelSize(api.Type{Fields: of.Fields[i : i+1]}) - 8 {
			if at+k < 8 || at+k >= size || owner[at+k] != 0 {
				t.Errorf("Layout(%v) = %v, %d: field %d isn't alone at %d", of, places, size, i, at+k)
				return
			}
			owner[at+k] = i + 1
		}
	}
	if !slices.IsSorted(owner) || slices.Contains(owner[8:], 0) {
		t.Errorf("Layout(%v) = %v, %d: a gap", of, places, size)
	}
}
