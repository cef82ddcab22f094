package heap_test

import (
	"bytes"
	"math"
	"reflect"
	"slices"
	"strconv"
	"testing"

	"turnbuckle/api"
	"turnbuckle/heap"
)

func scalar(n int) api.Field {
	return api.Field{Kind: api.FieldScalar, Len: n}
}

func ptr(t int) api.Field {
	return api.Field{Kind: api.FieldPtr, Type: t}
}

var (
	node = api.Field{Kind: api.FieldNode}
	leaf = api.Field{Kind: api.FieldLeaf}
	lock = api.Field{Kind: api.FieldLock}
)

// kinds has each kind of field, first, last and between others, and types of each class of blocks, the least and the greatest size among them.
func kinds() []api.Type {
	return []api.Type{
		{Name: "cell", Refs: true, Fields: []api.Field{scalar(2), node, ptr(2), scalar(1)}},
		{Name: "val", Value: true, Fields: []api.Field{
			lock,
			{Kind: api.FieldList, Type: 0, Link: 1},
			{Kind: api.FieldTree, Type: 3, Link: 1, Key: 0},
			scalar(3),
			ptr(0),
		}},
		{Name: "long", Fields: []api.Field{scalar(12), ptr(2)}},
		{Name: "item", Fields: []api.Field{scalar(1), leaf, ptr(3), node, ptr(0)}},
		{Name: "bare"},
		{Name: "most", Refs: true, Fields: []api.Field{
			leaf, scalar(16), ptr(4), ptr(2), scalar(1), node, ptr(0), scalar(2), ptr(3), ptr(4), scalar(1), ptr(4),
		}},
		{Name: "tiny", Value: true, Fields: []api.Field{lock}},
		{Name: "wide", Fields: []api.Field{ptr(0), leaf}},
	}
}

// P12.1: the error of types.Check comes first, whatever the pages are.
func TestNewRefusesTypes(t *testing.T) {
	list := func(f ...api.Field) []api.Type {
		return []api.Type{{Name: "ok"}, {Name: "odd", Fields: f}}
	}
	many := make([]api.Type, 33)
	for i := range many {
		many[i].Name = "t" + strconv.Itoa(i)
	}
	for i, c := range []struct {
		l   []api.Type
		err api.Errno
	}{
		{many, api.ErrSize},
		{[]api.Type{{}}, api.ErrForm},
		{[]api.Type{{Name: "a"}, {Name: "a"}}, api.ErrForm},
		{list(slices.Repeat([]api.Field{scalar(1)}, 13)...), api.ErrSize},
		{[]api.Type{{Name: "a", Value: true, Refs: true}}, api.ErrKind},
		{list(api.Field{}), api.ErrKind},
		{list(scalar(0)), api.ErrRange},
		{list(scalar(17)), api.ErrRange},
		{list(ptr(2)), api.ErrRange},
		{list(lock), api.ErrKind},
		{[]api.Type{{Name: "a", Value: true, Fields: []api.Field{lock, lock}}}, api.ErrLock},
		{list(scalar(16), scalar(16)), api.ErrSize},
		{[]api.Type{{Name: "a", Refs: true, Fields: []api.Field{ptr(0)}}}, api.ErrKind},
	} {
		for _, pages := range []int{1, 4, 128, 0, -1, 129, math.MinInt, math.MaxInt} {
			if h, err := heap.New(c.l, pages); h != nil || err != c.err {
				t.Errorf("list %d with %d pages: %v, %v, want %v", i, pages, h, err, c.err)
			}
		}
	}
}

// P12.1: pages are from 1 to 128; at first nothing is used, and all memory is 0.
func TestNewPages(t *testing.T) {
	for _, l := range [][]api.Type{kinds(), {}, nil} {
		for _, pages := range []int{0, -1, 129, 130, math.MinInt, math.MaxInt, 1<<32 + 1} {
			if h, err := heap.New(l, pages); h != nil || err != api.ErrArg {
				t.Errorf("New with %d pages: %v, %v", pages, h, err)
			}
		}
		for pages := 1; pages <= 128; pages++ {
			h, m := made(t, l, pages)
			if h.Arena() == nil || h.Arena() != h.Arena() || h.Arena().Len() != 512*pages {
				t.Fatalf("%d pages: the arena is %v of %d", pages, h.Arena(), h.Arena().Len())
			}
			if slices.ContainsFunc(memory(t, h), func(b byte) bool { return b != 0 }) {
				t.Fatalf("%d pages: not all is 0", pages)
			}
			if pages%32 <= 1 {
				same(t, h, m)
			}
		}
	}
}

// P12.1, R3: Types are those given, and stay so whatever becomes of the list that was given; so do the objects.
func TestTypes(t *testing.T) {
	l := kinds()
	h, m := made(t, l, 8)
	m.l = kinds()
	if !reflect.DeepEqual(h.Types(), kinds()) || !reflect.DeepEqual(l, kinds()) {
		t.Fatalf("%+v, %+v", h.Types(), l)
	}
	at := do(t, h, m, call{name: "Make", n: 0}).n
	for i := range l {
		for k := range l[i].Fields {
			l[i].Fields[k] = lock
		}
		l[i] = api.Type{Name: "other"}
	}
	if !reflect.DeepEqual(h.Types(), kinds()) {
		t.Fatalf("%+v", h.Types())
	}
	do(t, h, m, call{name: "Put", n: at, field: 0, i: 1, v: 5})
	do(t, h, m, call{name: "Retain", n: at})
	do(t, h, m, call{name: "Swap", n: at, field: 2, to: do(t, h, m, call{name: "Make", n: 2}).n})
	same(t, h, m)
	for _, l := range [][]api.Type{nil, {}} {
		if h, _ := made(t, l, 1); len(h.Types()) != 0 {
			t.Errorf("%v", h.Types())
		}
	}
}

// P12.1: a Heap that New didn't create has no type and no object.
func TestNoHeap(t *testing.T) {
	for _, h := range []*heap.Heap{nil, {}} {
		if h.Arena() != nil || len(h.Types()) != 0 || h.Used() != 0 || h.Pages() != 0 {
			t.Errorf("%v, %v, %d, %d", h.Arena(), h.Types(), h.Used(), h.Pages())
		}
		for _, n := range []int{0, 1, 1000000} {
			if err := h.Fail(n); err != api.OK {
				t.Errorf("Fail(%d): %v", n, err)
			}
		}
		for _, n := range []int{-1, 1000001} {
			if err := h.Fail(n); err != api.ErrArg {
				t.Errorf("Fail(%d): %v", n, err)
			}
		}
		for _, n := range append([]int{-1, 0, 1, 2, 512}, far...) {
			if at, err := h.Make(n); at != 0 || err != api.ErrArg {
				t.Errorf("Make(%d): %d, %v", n, at, err)
			}
			for _, c := range atAll(n, 0, 0) {
				want := answer{err: api.ErrArg}
				if c.name == "Type" {
					want = answer{}
				}
				if got := asked(h, c); got != want {
					t.Errorf("%+v: %+v", c, got)
				}
			}
		}
	}
}

// P12.2: a new object's count is 1, its fields are 0, and its block is one of the slab's for the size of its type.
func TestMake(t *testing.T) {
	l := kinds()
	classes := []int{64, 64, 128, 128, 16, 256, 16, 64}
	for i, class := range classes {
		h, m := made(t, l, 2)
		at := do(t, h, m, call{name: "Make", n: i}).n
		if at != 512 || h.Used() != class || h.Pages() != 1 {
			t.Errorf("Make(%d): %d, used %d", i, at, h.Used())
		}
		want := append([]byte{1, 0, 0, 0, byte(i), 0, 0, 0}, make([]byte, class-8)...)
		if got, _ := h.Arena().Bytes(at, class); !slices.Equal(got, want) {
			t.Errorf("Make(%d): %v", i, got)
		}
		same(t, h, m)
		made := 1
		for do(t, h, m, call{name: "Make", n: i}).err == api.OK {
			made++
		}
		if made != 512/class {
			t.Errorf("Make(%d) made %d objects", i, made)
		}
		same(t, h, m)
	}
}

// P12.2: a type that there isn't.
func TestMakeRefuses(t *testing.T) {
	for _, n := range []int{0, 1, 8, 32} {
		l := make([]api.Type, n)
		for i := range l {
			l[i].Name = "t" + strconv.Itoa(i)
		}
		h, m := made(t, l, 2)
		for _, i := range append([]int{-1, -2, n, n + 1, 33, 255}, far...) {
			if got := do(t, h, m, call{name: "Make", n: i}); got != (answer{err: api.ErrArg}) {
				t.Errorf("Make(%d) of %d types: %+v", i, n, got)
			}
		}
		for i := range n {
			if got := do(t, h, m, call{name: "Make", n: i}); got.n != 512+16*i || got.err != api.OK {
				t.Errorf("Make(%d) of %d types: %+v", i, n, got)
			}
		}
		same(t, h, m)
	}
}

// P12.2: with one page there is no block.
func TestMakeWithoutRoom(t *testing.T) {
	h, m := made(t, kinds(), 1)
	for i := range kinds() {
		if got := do(t, h, m, call{name: "Make", n: i}); got != (answer{err: api.ErrFull}) {
			t.Errorf("Make(%d): %+v", i, got)
		}
	}
	same(t, h, m)
}

// P12.2: a block that was used before is all 0 again.
func TestMakeAgain(t *testing.T) {
	h, m := made(t, kinds(), 2)
	first := do(t, h, m, call{name: "Make", n: 5}).n
	second := do(t, h, m, call{name: "Make", n: 5}).n
	for _, at := range []int{first, second} {
		for field, w := range m.objects[at].words {
			for k := range w {
				scribble(t, h, m, at, field, k, 1<<64-1)
			}
		}
	}
	same(t, h, m)
	do(t, h, m, call{name: "Release", n: first})
	do(t, h, m, call{name: "Reclaim", n: first})
	same(t, h, m)
	if at := do(t, h, m, call{name: "Make", n: 5}).n; at != first {
		t.Errorf("%d, want %d", at, first)
	}
	same(t, h, m)
}

// P12.2: Fail's numbers; one that it refuses leaves what was requested.
func TestFailNumbers(t *testing.T) {
	h, m := made(t, kinds(), 2)
	do(t, h, m, call{name: "Fail", n: 2})
	for _, n := range []int{-1, -2, 1000001, 1000002, math.MinInt, math.MaxInt, 1 << 32, -1000000} {
		if got := do(t, h, m, call{name: "Fail", n: n}); got.err != api.ErrArg {
			t.Errorf("Fail(%d): %+v", n, got)
		}
	}
	for i, want := range []api.Errno{api.ErrFull, api.ErrFull, api.OK, api.OK} {
		if got := do(t, h, m, call{name: "Make", n: 4}); got.err != want {
			t.Errorf("call %d: %+v, want %v", i, got, want)
		}
	}
	same(t, h, m)
}

// P12.2: each run is what is called one after another: f and a number is Fail; a type is Make, followed by what it is to answer: + an object, - ErrFull, ! ErrArg.
func TestFail(t *testing.T) {
	for _, c := range []struct {
		pages int
		run   string
	}{
		{8, "f0 0+ 1+"},
		{8, "f1 0- 0+ 0+"},
		{8, "f1 8! 9! 0- 8! 0+"},
		{8, "f3 0- 1- 2- 3+ f2 4- 8! 5- 6+"},
		{8, "f5 0- f1 0- 0+"},
		{8, "f1 f3 0- 0- 0- 0+"},
		{8, "f5 0- f0 0+"},
		{2, "5+ 5+ 5- 5- f1 5- 5-"},
		{2, "f2 5- 5- 5+ 5+ 5- f0 5- 8!"},
		{1, "0- 8! f1 8! 0- 0-"},
	} {
		h, m := made(t, kinds(), c.pages)
		for i := 0; i < len(c.run); i += 3 {
			what, n := c.run[i+1], int(c.run[i]-'0')
			if c.run[i] == 'f' {
				do(t, h, m, call{name: "Fail", n: int(what - '0')})
				continue
			}
			want := map[byte]api.Errno{'+': api.OK, '-': api.ErrFull, '!': api.ErrArg}[what]
			if got := do(t, h, m, call{name: "Make", n: n}); got.err != want {
				t.Errorf("%s: at %d %+v", c.run, i, got)
			}
		}
		same(t, h, m)
	}
}

// P12.2: what is to fail counts down in a full heap too.
func TestFailOfAFullHeap(t *testing.T) {
	h, m := made(t, kinds(), 2)
	at := do(t, h, m, call{name: "Make", n: 5}).n
	do(t, h, m, call{name: "Make", n: 5})
	do(t, h, m, call{name: "Fail", n: 2})
	do(t, h, m, call{name: "Make", n: 5})
	do(t, h, m, call{name: "Release", n: at})
	do(t, h, m, call{name: "Reclaim", n: at})
	for i, want := range []api.Errno{api.ErrFull, api.OK, api.ErrFull} {
		if got := do(t, h, m, call{name: "Make", n: 5}); got.err != want {
			t.Errorf("call %d: %+v, want %v", i, got, want)
		}
	}
	same(t, h, m)
}

// P12.2: the greatest number.
func TestFailMost(t *testing.T) {
	h, m := made(t, kinds(), 2)
	if err := h.Fail(1000000); err != api.OK {
		t.Fatal(err)
	}
	for i := range 1000000 {
		if at, err := h.Make(i % 8); at != 0 || err != api.ErrFull {
			t.Fatalf("call %d: %d, %v", i, at, err)
		}
	}
	do(t, h, m, call{name: "Make", n: 0})
	same(t, h, m)
}

// P12.3: the count up to its limit and down again, in its four bytes, those of the type beside it.
func TestCount(t *testing.T) {
	h, m := made(t, kinds(), 2)
	at, err := h.Make(5)
	m.Make(5)
	if err != api.OK {
		t.Fatal(err)
	}
	watched := []int{1, 2, 3, 127, 128, 255, 256, 257, 65535, 65536, 65537, 262144, 999999, 1000000}
	check := func(count int) {
		if n, err := h.Count(at); n != count || err != api.OK {
			t.Fatalf("Count: %d, %v, want %d", n, err, count)
		}
		if slices.Contains(watched, count) {
			m.objects[at].count = count
			same(t, h, m)
		}
	}
	check(1)
	for count := 2; count <= 1000000; count++ {
		if err := h.Retain(at); err != api.OK {
			t.Fatalf("Retain to %d: %v", count, err)
		}
		check(count)
	}
	for range 3 {
		if got := do(t, h, m, call{name: "Retain", n: at}); got.err != api.ErrRange {
			t.Fatalf("Retain at the limit: %+v", got)
		}
		do(t, h, m, call{name: "Reclaim", n: at})
		same(t, h, m)
	}
	for count := 999999; count >= 0; count-- {
		if last, err := h.Release(at); last != (count == 0) || err != api.OK {
			t.Fatalf("Release to %d: %v, %v", count, last, err)
		}
		check(count)
	}
	m.objects[at].count = 0
	for _, name := range []string{"Release", "Retain", "Release", "Retain"} {
		if got := do(t, h, m, call{name: name, n: at}); got != (answer{err: api.ErrRef}) {
			t.Fatalf("%s of none: %+v", name, got)
		}
	}
	same(t, h, m)
	do(t, h, m, call{name: "Reclaim", n: at})
	same(t, h, m)
}

// P12.3: Retain's errors in their order; of a type without Refs it is ErrKind whatever the count is.
func TestRetainOrder(t *testing.T) {
	for i, typ := range kinds() {
		for count, want := range map[int]api.Errno{0: api.ErrRef, 1: api.OK, 2: api.OK, 999999: api.OK, 1000000: api.ErrRange} {
			h, m := made(t, kinds(), 2)
			at := do(t, h, m, call{name: "Make", n: i}).n
			// The count lies in the object's first four bytes, so that it needn't be reached by as many calls.
			h.Arena().Store(at, 4, uint64(count))
			m.objects[at].count = count
			if !typ.Refs {
				want = api.ErrKind
			}
			if got := do(t, h, m, call{name: "Retain", n: at}); got.err != want {
				t.Errorf("type %d, count %d: %+v, want %v", i, count, got, want)
			}
			same(t, h, m)
		}
	}
}

// P12.3: Release asks for no Refs.
func TestReleaseOfEachType(t *testing.T) {
	for i := range kinds() {
		h, m := made(t, kinds(), 2)
		at := do(t, h, m, call{name: "Make", n: i}).n
		for _, want := range []answer{{ok: true}, {err: api.ErrRef}, {err: api.ErrRef}} {
			if got := do(t, h, m, call{name: "Release", n: at}); got != want {
				t.Errorf("type %d: %+v, want %+v", i, got, want)
			}
			same(t, h, m)
		}
	}
}

// wrong are indexes that no field and no number has, if there are n of them.
func wrong(n int) []int {
	return append([]int{-1, -2, n, n + 1, 12, 16, 17, 255}, far...)
}

// P12.4, P12.6: each call for each field of each type, with each index: of the fields and numbers, and of none.
func TestFields(t *testing.T) {
	for i, typ := range kinds() {
		h, m := made(t, kinds(), 8)
		at := do(t, h, m, call{name: "Make", n: i}).n
		for n := range kinds() {
			do(t, h, m, call{name: "Make", n: n})
		}
		fields := wrong(len(typ.Fields))
		for field := range typ.Fields {
			fields = append(fields, field)
		}
		for _, field := range fields {
			testField(t, h, m, at, field)
		}
		same(t, h, m)
	}
}

func testField(t *testing.T, h *heap.Heap, m *model, at, field int) {
	t.Helper()
	do(t, h, m, call{name: "Place", n: at, field: field})
	do(t, h, m, call{name: "Ptr", n: at, field: field})
	for _, i := range append(wrong(16), 0, 1, 2, 3, 4, 5, 6, 7, 8, 9, 10, 11, 12, 13, 14, 15) {
		do(t, h, m, call{name: "Get", n: at, field: field, i: i})
		for _, v := range []uint64{1<<64 - 1, 0, 0x0123456789abcdef + uint64(field)<<32 + uint64(i)} {
			do(t, h, m, call{name: "Put", n: at, field: field, i: i, v: v})
			do(t, h, m, call{name: "Get", n: at, field: field, i: i})
		}
	}
	same(t, h, m)
	for _, to := range append(m.offsets(), append([]int{0, 1, 8, at + 1, at + 8, -at}, far...)...) {
		do(t, h, m, call{name: "Swap", n: at, field: field, to: to})
		do(t, h, m, call{name: "Ptr", n: at, field: field})
	}
	same(t, h, m)
}

// P12.4: the errors in their order, chosen by hand: type 0 has a scalar of 2, a node, a pointer to type 2 and a scalar of 1.
func TestFieldErrors(t *testing.T) {
	h, m := made(t, kinds(), 8)
	at := do(t, h, m, call{name: "Make", n: 0}).n
	long := do(t, h, m, call{name: "Make", n: 2}).n
	for _, c := range []struct {
		c   call
		err api.Errno
	}{
		{call{name: "Get", n: at, field: 0, i: 1}, api.OK},
		{call{name: "Get", n: at, field: 0, i: 2}, api.ErrRange},
		{call{name: "Get", n: at, field: 0, i: -1}, api.ErrRange},
		{call{name: "Get", n: at, field: 3, i: 0}, api.OK},
		{call{name: "Get", n: at, field: 3, i: 1}, api.ErrRange},
		{call{name: "Get", n: at, field: 1, i: 0}, api.ErrKind},
		{call{name: "Get", n: at, field: 1, i: -1}, api.ErrKind},
		{call{name: "Get", n: at, field: 2, i: 5}, api.ErrKind},
		{call{name: "Get", n: at, field: 4, i: 0}, api.ErrKind},
		{call{name: "Get", n: at, field: -1, i: -1}, api.ErrKind},
		{call{name: "Get", n: at + 8, field: 0, i: 0}, api.ErrArg},
		{call{name: "Get", n: at + 8, field: -1, i: -1}, api.ErrArg},
		{call{name: "Put", n: at, field: 0, i: 2}, api.ErrRange},
		{call{name: "Put", n: at, field: 1, i: 2}, api.ErrKind},
		{call{name: "Put", n: 0, field: 1, i: 2}, api.ErrArg},
		{call{name: "Ptr", n: at, field: 2}, api.OK},
		{call{name: "Ptr", n: at, field: 0}, api.ErrKind},
		{call{name: "Ptr", n: at, field: 4}, api.ErrKind},
		{call{name: "Ptr", n: at - 8, field: 4}, api.ErrArg},
		{call{name: "Swap", n: at, field: 2, to: long}, api.OK},
		{call{name: "Swap", n: at, field: 2, to: at}, api.ErrKind},
		{call{name: "Swap", n: at, field: 2, to: long + 8}, api.ErrKind},
		{call{name: "Swap", n: at, field: 2, to: -1}, api.ErrKind},
		{call{name: "Swap", n: at, field: 0, to: long}, api.ErrKind},
		{call{name: "Swap", n: at, field: 0, to: 0}, api.ErrKind},
		{call{name: "Swap", n: at, field: 4, to: 0}, api.ErrKind},
		{call{name: "Swap", n: at + 64, field: 2, to: long}, api.ErrArg},
		{call{name: "Swap", n: at + 64, field: 9, to: 1}, api.ErrArg},
		{call{name: "Place", n: at, field: 0}, api.OK},
		{call{name: "Place", n: at, field: 3}, api.OK},
		{call{name: "Place", n: at, field: 4}, api.ErrKind},
		{call{name: "Place", n: at, field: -1}, api.ErrKind},
		{call{name: "Place", n: at + 8, field: -1}, api.ErrArg},
	} {
		if got := do(t, h, m, c.c); got.err != c.err {
			t.Errorf("%+v: %+v, want %v", c.c, got, c.err)
		}
	}
	same(t, h, m)
}

// P12.4: where the fields lie, worked out by hand.
func TestPlace(t *testing.T) {
	for i, want := range [][]int{
		{8, 24, 40, 48},
		{8, 16, 24, 32, 56},
		{8, 104},
		{8, 16, 40, 48, 64},
		{},
		{8, 32, 160, 168, 176, 184, 200, 208, 224, 232, 240, 248},
		{8},
		{8, 16},
	} {
		h, m := made(t, kinds(), 4)
		do(t, h, m, call{name: "Make", n: i})
		at := do(t, h, m, call{name: "Make", n: i}).n
		for field, offset := range want {
			if got := do(t, h, m, call{name: "Place", n: at, field: field}); got.n != at+offset || got.err != api.OK {
				t.Errorf("type %d, field %d: %+v, want %d", i, field, got, at+offset)
			}
		}
		if got := do(t, h, m, call{name: "Place", n: at, field: len(want)}); got != (answer{err: api.ErrKind}) {
			t.Errorf("type %d, field %d: %+v", i, len(want), got)
		}
	}
}

// P12.4, P12.6: what others write at the places of fields stays, and the heap reads it where the fields are its own.
func TestWrittenByOthers(t *testing.T) {
	h, m := made(t, kinds(), 8)
	for i := range kinds() {
		at := do(t, h, m, call{name: "Make", n: i}).n
		for field, w := range m.objects[at].words {
			for k := range w {
				scribble(t, h, m, at, field, k, uint64(100000*i+1000*field+k))
			}
		}
	}
	same(t, h, m)
	for _, at := range m.offsets() {
		o := m.objects[at]
		for field, f := range m.l[o.t].Fields {
			for i := range f.Len {
				do(t, h, m, call{name: "Get", n: at, field: field, i: i})
				do(t, h, m, call{name: "Put", n: at, field: field, i: i, v: uint64(i)})
			}
			do(t, h, m, call{name: "Ptr", n: at, field: field})
			do(t, h, m, call{name: "Swap", n: at, field: field})
		}
		do(t, h, m, call{name: "Retain", n: at})
		do(t, h, m, call{name: "Release", n: at})
		same(t, h, m)
	}
}

// P12.4: an object of the field's Type, and no other; also itself, one without references, and one of the index 0.
func TestSwap(t *testing.T) {
	h, m := made(t, kinds(), 16)
	var first, second []int
	for i := range kinds() {
		first = append(first, do(t, h, m, call{name: "Make", n: i}).n)
		second = append(second, do(t, h, m, call{name: "Make", n: i}).n)
	}
	do(t, h, m, call{name: "Release", n: second[2]})
	for i, typ := range kinds() {
		for field, f := range typ.Fields {
			if f.Kind != api.FieldPtr {
				continue
			}
			was := 0
			for _, to := range []int{first[f.Type], second[f.Type], second[f.Type], 0, 0, first[f.Type]} {
				got := do(t, h, m, call{name: "Swap", n: first[i], field: field, to: to})
				if got.n != was || got.err != api.OK {
					t.Errorf("type %d, field %d, to %d: %+v, want %d", i, field, to, got, was)
				}
				was = to
			}
			for other := range kinds() {
				if other == f.Type {
					continue
				}
				if got := do(t, h, m, call{name: "Swap", n: first[i], field: field, to: first[other]}); got != (answer{err: api.ErrKind}) {
					t.Errorf("type %d, field %d, to one of type %d: %+v", i, field, other, got)
				}
			}
			same(t, h, m)
		}
	}
	// An object that was reclaimed is none any more.
	do(t, h, m, call{name: "Reclaim", n: second[2]})
	if got := do(t, h, m, call{name: "Swap", n: first[0], field: 2, to: second[2]}); got != (answer{err: api.ErrKind}) {
		t.Errorf("%+v", got)
	}
	same(t, h, m)
}

// P12.5: one that is referred to stays, and one that is reclaimed is gone for each call.
func TestReclaim(t *testing.T) {
	for i := range kinds() {
		h, m := made(t, kinds(), 4)
		at := do(t, h, m, call{name: "Make", n: i}).n
		stays := do(t, h, m, call{name: "Make", n: i}).n
		for _, want := range []api.Errno{api.ErrRef, api.OK, api.ErrArg} {
			if got := do(t, h, m, call{name: "Reclaim", n: at}); got.err != want {
				t.Fatalf("type %d: %+v, want %v", i, got, want)
			}
			same(t, h, m)
			if want == api.ErrRef {
				do(t, h, m, call{name: "Release", n: at})
			}
		}
		for _, c := range atAll(at, 0, 0) {
			do(t, h, m, c)
		}
		do(t, h, m, call{name: "Release", n: stays})
		do(t, h, m, call{name: "Reclaim", n: stays})
		same(t, h, m)
		if h.Used() != 0 || h.Pages() != 0 {
			t.Errorf("type %d: used %d, %d pages", i, h.Used(), h.Pages())
		}
	}
}

// Words: where no object is, each call returns ErrArg ahead of all else, and nothing changes.
func TestNoObject(t *testing.T) {
	h, m := made(t, kinds(), 4)
	for _, i := range []int{0, 4, 5, 5} {
		do(t, h, m, call{name: "Make", n: i})
	}
	at := m.offsets()[1]
	do(t, h, m, call{name: "Release", n: at})
	do(t, h, m, call{name: "Reclaim", n: at})
	offsets := slices.Clone(far)
	for at := -40; at < 4*512+40; at++ {
		if _, there := m.Type(at); !there {
			offsets = append(offsets, at)
		}
	}
	for _, at := range offsets {
		for _, field := range []int{0, -1} {
			for _, c := range atAll(at, field, field) {
				got := do(t, h, m, c)
				if want := api.ErrArg; c.name != "Type" && got != (answer{err: want}) {
					t.Fatalf("%+v: %+v", c, got)
				}
			}
		}
	}
	same(t, h, m)
}

// changes are all calls that a state is followed by, those that fail among them.
func changes(m *model) []call {
	l := []call{{name: "Fail", n: 0}, {name: "Fail", n: 1}, {name: "Fail", n: -1}}
	for i := -1; i <= len(m.l); i++ {
		l = append(l, call{name: "Make", n: i})
	}
	offsets := m.offsets()
	for _, at := range append(offsets, 0, 512, 768, 1024, 520) {
		for _, name := range []string{"Type", "Count", "Retain", "Release", "Reclaim"} {
			l = append(l, call{name: name, n: at})
		}
		for field := -1; field <= 3; field++ {
			l = append(l, call{name: "Place", n: at, field: field}, call{name: "Ptr", n: at, field: field})
			for i := -1; i <= 2; i++ {
				l = append(l, call{name: "Get", n: at, field: field, i: i})
				l = append(l, call{name: "Put", n: at, field: field, i: i, v: 1<<63 + uint64(at)})
			}
			for _, to := range append(offsets, 0, 520) {
				l = append(l, call{name: "Swap", n: at, field: field, to: to})
			}
		}
	}
	return l
}

// inEveryState makes each call in each state that so many calls from a new heap lead to, and tells how many states these are.
func inEveryState(t *testing.T, l []api.Type, pages, depth int) int {
	t.Helper()
	seen := map[string]bool{newModel(l, pages).key(): true}
	paths := [][]call{nil}
	for n := 0; n < len(paths); n++ {
		replayed := func() (*heap.Heap, *model) {
			h, m := made(t, l, pages)
			for _, c := range paths[n] {
				asked(h, c)
				asked(m, c)
			}
			return h, m
		}
		h, m := replayed()
		same(t, h, m)
		was := m.key()
		var still []call // those that change nothing
		for _, c := range changes(m) {
			got, want := asked(h, c), asked(m, c)
			if got != want {
				t.Fatalf("%+v, then %+v: %+v, want %+v", paths[n], c, got, want)
			}
			if c.asks() || want.err != api.OK && c.name != "Make" {
				still = append(still, c)
				continue
			}
			now := m.key()
			if now == was {
				continue
			}
			same(t, h, m)
			if !seen[now] && len(paths[n]) < depth {
				seen[now] = true
				paths = append(paths, append(slices.Clone(paths[n]), c))
			}
			h, m = replayed()
		}
		before := memory(t, h)
		for _, c := range still {
			asked(h, c)
		}
		if !bytes.Equal(memory(t, h), before) {
			t.Fatalf("%+v: one of the calls that change nothing changed the memory", paths[n])
		}
		same(t, h, m)
	}
	return len(paths)
}

// P12.2 to P12.6: each call in each state of small heaps.
func TestEveryState(t *testing.T) {
	small := []api.Type{
		{Name: "cell", Refs: true, Fields: []api.Field{scalar(2), ptr(1)}},
		{Name: "peer", Fields: []api.Field{ptr(1), node}},
		{Name: "val", Value: true, Fields: []api.Field{ptr(0), lock}},
	}
	great := []api.Type{
		{Name: "cell", Refs: true, Fields: []api.Field{scalar(1), ptr(1), scalar(16), leaf, leaf, leaf, scalar(3)}},
		{Name: "peer", Fields: []api.Field{ptr(1), scalar(2), scalar(16), leaf}},
	}
	for _, c := range []struct {
		l            []api.Type
		pages, depth int
	}{{small, 2, 4}, {small, 3, 3}, {great, 2, 5}, {great, 3, 4}} {
		n := inEveryState(t, c.l, c.pages, c.depth)
		if n < 100 {
			t.Errorf("only %d states", n)
		}
	}
}

// chance is a row of numbers that is the same each time.
type chance uint64

func (c *chance) below(n int) int {
	*c = *c*6364136223846793005 + 1442695040888963407
	return int(uint64(*c) >> 33 % uint64(n))
}

// anyCall mostly takes an object and a field that are there; make and give weigh how often objects come and go.
func anyCall(c *chance, m *model, offsets []int, make, give int) call {
	at := c.below(512 * 3)
	if len(offsets) > 0 && c.below(20) > 0 {
		at = offsets[c.below(len(offsets))]
	}
	k := call{n: at, field: c.below(6), i: c.below(4), v: uint64(c.below(1<<30)) << c.below(35)}
	if o := m.objects[at]; o != nil && len(o.words) > 0 {
		k.field = c.below(len(o.words))
	}
	if len(offsets) > 0 {
		k.to = offsets[c.below(len(offsets))]
	}
	others := []string{"Put", "Put", "Get", "Ptr", "Swap", "Swap", "Place", "Retain", "Count", "Type"}
	switch n := c.below(make + give + len(others)); {
	case n < make:
		k.name, k.n = "Make", c.below(len(m.l)+1)
	case n < make+give:
		k.name = []string{"Release", "Release", "Reclaim"}[c.below(3)]
	default:
		k.name = others[n-make-give]
	}
	if c.below(500) == 0 {
		k.name, k.n = "Fail", c.below(4)
	}
	return k
}

// P12.6, P2, P5: long runs in heaps of each kind of size, up to a full one, until nothing is used any more.
func TestLongRuns(t *testing.T) {
	for _, pages := range []int{2, 3, 7, 40, 128} {
		c := chance(pages)
		h, m := made(t, kinds(), pages)
		for turn := range 4 {
			offsets := m.offsets()
			for n := range 1500 {
				make, give := 12, 1
				if turn%2 == 1 {
					make, give = 1, 12
				}
				k := anyCall(&c, m, offsets, make, give)
				if got, want := asked(h, k), asked(m, k); got != want {
					t.Fatalf("%d pages, %+v: %+v, want %+v", pages, k, got, want)
				}
				if k.name == "Make" || k.name == "Reclaim" {
					offsets = m.offsets()
				}
				if n%100 == 0 {
					same(t, h, m)
				}
			}
			same(t, h, m)
		}
		reclaimAll(t, h, m)
	}
}

func reclaimAll(t *testing.T, h *heap.Heap, m *model) {
	t.Helper()
	for _, at := range m.offsets() {
		for m.objects[at].count > 0 {
			do(t, h, m, call{name: "Release", n: at})
		}
		do(t, h, m, call{name: "Reclaim", n: at})
	}
	same(t, h, m)
	if h.Used() != 0 || h.Pages() != 0 || len(m.objects) != 0 {
		t.Fatalf("used %d, %d pages, %d objects", h.Used(), h.Pages(), len(m.objects))
	}
}

// P12.2, P12.6: the largest heap, full of the smallest objects, up to the last bytes of the arena.
func TestFull(t *testing.T) {
	h, m := made(t, kinds(), 128)
	for i := range 127 * 32 {
		got, err := h.Make(4 + i%2*2)
		want, _ := m.Make(4 + i%2*2)
		if got != want || err != api.OK {
			t.Fatalf("object %d: %d, %v, want %d", i, got, err, want)
		}
	}
	do(t, h, m, call{name: "Make", n: 4})
	same(t, h, m)
	last := 128*512 - 16
	do(t, h, m, call{name: "Place", n: last, field: 0})
	do(t, h, m, call{name: "Release", n: last})
	do(t, h, m, call{name: "Reclaim", n: last})
	do(t, h, m, call{name: "Make", n: 5})
	do(t, h, m, call{name: "Make", n: 4})
	same(t, h, m)
}

// P12.4: the last number of the last object is the last one of the arena.
func TestLastNumber(t *testing.T) {
	l := []api.Type{{Name: "most", Fields: []api.Field{scalar(15), scalar(16)}}}
	h, m := made(t, l, 128)
	at := 0
	for {
		n, err := h.Make(0)
		m.Make(0)
		if err != api.OK {
			break
		}
		at = n
	}
	if at != 128*512-256 {
		t.Fatalf("the last object is at %d", at)
	}
	do(t, h, m, call{name: "Put", n: at, field: 1, i: 15, v: 1<<64 - 2})
	same(t, h, m)
	if v, err := h.Arena().Load(128*512-8, 8); v != 1<<64-2 || err != api.OK {
		t.Errorf("%d, %v", v, err)
	}
}

// R4: heaps know nothing of each other, though they have the same types.
func TestTwoHeaps(t *testing.T) {
	l := kinds()
	h, m := made(t, l, 2)
	other, o := made(t, l, 3)
	do(t, h, m, call{name: "Fail", n: 1})
	at := do(t, other, o, call{name: "Make", n: 0}).n
	same(t, h, m)
	do(t, h, m, call{name: "Make", n: 0})
	do(t, h, m, call{name: "Make", n: 3})
	do(t, other, o, call{name: "Put", n: at, field: 0, i: 1, v: 9})
	do(t, other, o, call{name: "Retain", n: at})
	same(t, other, o)
	same(t, h, m)
}

// The chapter's examples, and those of the whole that are said of an object.
func TestExamples(t *testing.T) {
	l := []api.Type{
		{Name: "node", Refs: true, Fields: []api.Field{scalar(2), node}},
		{Name: "val", Value: true, Fields: []api.Field{lock}},
	}
	h, m := made(t, l, 4)
	for _, c := range []struct {
		c    call
		want answer
	}{
		{call{name: "Make", n: 0}, answer{n: 512}},
		{call{name: "Get", n: 512, field: 0, i: 1}, answer{}},
		{call{name: "Put", n: 512, field: 1, i: 0, v: 5}, answer{err: api.ErrKind}},
		{call{name: "Retain", n: 512}, answer{}},
		{call{name: "Release", n: 512}, answer{}},
		{call{name: "Release", n: 512}, answer{ok: true}},
		{call{name: "Reclaim", n: 512}, answer{}},
		{call{name: "Make", n: 2}, answer{err: api.ErrArg}},
		{call{name: "Put", n: 512, field: 1, i: 0, v: 5}, answer{err: api.ErrArg}},
	} {
		if got := do(t, h, m, c.c); got != c.want {
			t.Errorf("%+v: %+v, want %+v", c.c, got, c.want)
		}
		same(t, h, m)
	}
}

// P1: whatever others wrote over heads and pointers, each call ends, and an error stands alone.
func TestWrittenOverHeads(t *testing.T) {
	heads := []uint64{0, 1, 1 << 20, 1<<31 - 1, 1 << 31, 1<<32 - 1}
	kindsOf := []uint64{0, 1, 2, 3, 4, 5, 6, 7, 8, 9, 31, 32, 255, 256, 1<<31 - 1, 1 << 31, 1<<32 - 1}
	for _, count := range heads {
		for _, kind := range kindsOf {
			h, m := made(t, kinds(), 2)
			at := 0
			for i := 0; i < 32; i++ {
				at = do(t, h, m, call{name: "Make", n: 4}).n
			}
			h.Arena().Store(at, 4, count)
			h.Arena().Store(at+4, 4, kind)
			for field := range 13 {
				for i := range 17 {
					for _, c := range atAll(at, field, i) {
						got := asked(h, c)
						if got.err != api.OK && got != (answer{err: got.err}) {
							t.Fatalf("%+v: %+v", c, got)
						}
					}
				}
			}
			h.Make(4)
			h.Used()
		}
	}
}

// P1: a pointer that others wrote over.
func TestWrittenOverPointers(t *testing.T) {
	for _, v := range []uint64{1, 511, 1 << 20, 1 << 31, 1 << 32, 1<<63 - 1, 1 << 63, 1<<64 - 1} {
		h, m := made(t, kinds(), 2)
		at := do(t, h, m, call{name: "Make", n: 0}).n
		scribble(t, h, m, at, 2, 0, v)
		do(t, h, m, call{name: "Ptr", n: at, field: 2})
		do(t, h, m, call{name: "Swap", n: at, field: 2})
		do(t, h, m, call{name: "Ptr", n: at, field: 2})
		same(t, h, m)
	}
}
