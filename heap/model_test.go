package heap_test

import (
	"bytes"
	"encoding/binary"
	"fmt"
	"maps"
	"math"
	"slices"
	"testing"

	"turnbuckle/api"
	"turnbuckle/heap"
	"turnbuckle/slab"
)

// object is one said plainly: words is what each of its fields holds.
type object struct {
	t, count int
	words    [][]uint64
}

// model is a heap said plainly. Where its objects lie, a slab of its own tells, whose memory isn't used.
type model struct {
	l       []api.Type
	twin    *slab.Slab
	objects map[int]*object
	fails   int
	history string // the slab's calls since it was empty: two models that have the same objects and the same history behave alike
}

func newModel(l []api.Type, pages int) *model {
	twin, _ := slab.New(pages)
	return &model{l: l, twin: twin, objects: map[int]*object{}}
}

// wordsOf is how many times 8 bytes a field takes.
func wordsOf(f api.Field) int {
	switch f.Kind {
	case api.FieldScalar:
		return f.Len
	case api.FieldNode:
		return 2
	case api.FieldLeaf:
		return 3
	}
	return 1
}

func (m *model) Fail(n int) api.Errno {
	if n < 0 || n > 1000000 {
		return api.ErrArg
	}
	m.fails = n
	return api.OK
}

func (m *model) Make(t int) (int, api.Errno) {
	if t < 0 || t >= len(m.l) {
		return 0, api.ErrArg
	}
	if m.fails > 0 {
		m.fails--
		return 0, api.ErrFull
	}
	o := &object{t: t, count: 1}
	size := 8
	for _, f := range m.l[t].Fields {
		o.words = append(o.words, make([]uint64, wordsOf(f)))
		size += 8 * wordsOf(f)
	}
	at, err := m.twin.Alloc(size)
	if err != api.OK {
		return 0, api.ErrFull
	}
	m.objects[at] = o
	m.history += fmt.Sprintf("+%d ", at)
	return at, api.OK
}

func (m *model) Type(at int) (int, bool) {
	if o := m.objects[at]; o != nil {
		return o.t, true
	}
	return 0, false
}

func (m *model) Count(at int) (int, api.Errno) {
	if o := m.objects[at]; o != nil {
		return o.count, api.OK
	}
	return 0, api.ErrArg
}

func (m *model) Retain(at int) api.Errno {
	o := m.objects[at]
	switch {
	case o == nil:
		return api.ErrArg
	case !m.l[o.t].Refs:
		return api.ErrKind
	case o.count == 0:
		return api.ErrRef
	case o.count == 1000000:
		return api.ErrRange
	}
	o.count++
	return api.OK
}

func (m *model) Release(at int) (bool, api.Errno) {
	o := m.objects[at]
	switch {
	case o == nil:
		return false, api.ErrArg
	case o.count == 0:
		return false, api.ErrRef
	}
	o.count--
	return o.count == 0, api.OK
}

func (m *model) Reclaim(at int) api.Errno {
	o := m.objects[at]
	switch {
	case o == nil:
		return api.ErrArg
	case o.count != 0:
		return api.ErrRef
	}
	delete(m.objects, at)
	m.twin.Free(at)
	m.history += fmt.Sprintf("-%d ", at)
	if len(m.objects) == 0 {
		m.history = ""
	}
	return api.OK
}

// find is the words of a field of one of the kinds.
func (m *model) find(at, field int, kinds ...int) ([]uint64, api.Errno) {
	o := m.objects[at]
	if o == nil {
		return nil, api.ErrArg
	}
	if field < 0 || field >= len(o.words) || !slices.Contains(kinds, m.l[o.t].Fields[field].Kind) {
		return nil, api.ErrKind
	}
	return o.words[field], api.OK
}

func (m *model) scalar(at, field, i int) ([]uint64, api.Errno) {
	w, err := m.find(at, field, api.FieldScalar)
	if err == api.OK && (i < 0 || i >= len(w)) {
		return nil, api.ErrRange
	}
	return w, err
}

func (m *model) Get(at, field, i int) (uint64, api.Errno) {
	w, err := m.scalar(at, field, i)
	if err != api.OK {
		return 0, err
	}
	return w[i], api.OK
}

func (m *model) Put(at, field, i int, v uint64) api.Errno {
	w, err := m.scalar(at, field, i)
	if err == api.OK {
		w[i] = v
	}
	return err
}

func (m *model) Ptr(at, field int) (int, api.Errno) {
	w, err := m.find(at, field, api.FieldPtr)
	if err != api.OK {
		return 0, err
	}
	return int(w[0]), api.OK
}

func (m *model) Swap(at, field, to int) (int, api.Errno) {
	w, err := m.find(at, field, api.FieldPtr)
	if err != api.OK {
		return 0, err
	}
	target := m.l[m.objects[at].t].Fields[field].Type
	if o := m.objects[to]; to != 0 && (o == nil || o.t != target) {
		return 0, api.ErrKind
	}
	was := w[0]
	w[0] = uint64(to)
	return int(was), api.OK
}

func (m *model) Place(at, field int) (int, api.Errno) {
	if _, err := m.find(at, field, 1, 2, 3, 4, 5, 6, 7); err != api.OK {
		return 0, err
	}
	place := at + 8
	for _, w := range m.objects[at].words[:field] {
		place += 8 * len(w)
	}
	return place, api.OK
}

func (m *model) Used() int {
	return m.twin.Used()
}

func (m *model) Pages() int {
	return m.twin.Pages()
}

// block is each byte of an object's block.
func (m *model) block(at int) []byte {
	o := m.objects[at]
	b := binary.LittleEndian.AppendUint32(nil, uint32(o.count))
	b = binary.LittleEndian.AppendUint32(b, uint32(o.t))
	for _, w := range o.words {
		for _, v := range w {
			b = binary.LittleEndian.AppendUint64(b, v)
		}
	}
	class, _ := m.twin.Block(at)
	return append(b, make([]byte, class-len(b))...)
}

// offsets are those of the objects, rising.
func (m *model) offsets() []int {
	return slices.Sorted(maps.Keys(m.objects))
}

// key tells models apart.
func (m *model) key() string {
	k := fmt.Sprint(m.fails, " ", m.history)
	for _, at := range m.offsets() {
		k += string(m.block(at))
	}
	return k
}

// caller is what a heap and the model have in common.
type caller interface {
	Fail(n int) api.Errno
	Make(t int) (int, api.Errno)
	Type(at int) (int, bool)
	Count(at int) (int, api.Errno)
	Retain(at int) api.Errno
	Release(at int) (bool, api.Errno)
	Get(at, field, i int) (uint64, api.Errno)
	Put(at, field, i int, v uint64) api.Errno
	Ptr(at, field int) (int, api.Errno)
	Swap(at, field, to int) (int, api.Errno)
	Place(at, field int) (int, api.Errno)
	Reclaim(at int) api.Errno
}

// call is one: n is Fail's number, Make's type, and the offset of all others; to is what Swap is given.
type call struct {
	name            string
	n, field, i, to int
	v               uint64
}

// asks tells whether it is a call that changes nothing.
func (c call) asks() bool {
	return slices.Contains([]string{"Type", "Count", "Get", "Ptr", "Place"}, c.name)
}

type answer struct {
	n   int
	v   uint64
	ok  bool
	err api.Errno
}

// asked makes the call of a heap, or of a model.
func asked(h caller, c call) (a answer) {
	switch c.name {
	case "Fail":
		a.err = h.Fail(c.n)
	case "Make":
		a.n, a.err = h.Make(c.n)
	case "Type":
		a.n, a.ok = h.Type(c.n)
	case "Count":
		a.n, a.err = h.Count(c.n)
	case "Retain":
		a.err = h.Retain(c.n)
	case "Release":
		a.ok, a.err = h.Release(c.n)
	case "Get":
		a.v, a.err = h.Get(c.n, c.field, c.i)
	case "Put":
		a.err = h.Put(c.n, c.field, c.i, c.v)
	case "Ptr":
		a.n, a.err = h.Ptr(c.n, c.field)
	case "Swap":
		a.n, a.err = h.Swap(c.n, c.field, c.to)
	case "Place":
		a.n, a.err = h.Place(c.n, c.field)
	case "Reclaim":
		a.err = h.Reclaim(c.n)
	default:
		panic("no call " + c.name)
	}
	return a
}

// far are numbers that are no offset, no index and no type; the third and the fourth are 512 and 0 in their low 32 bits.
var far = []int{math.MinInt, math.MinInt + 512, 1<<32 + 512, 1 << 32, math.MinInt32, -512, -8, 65536, 1 << 20, math.MaxInt - 7, math.MaxInt}

// atAll is each call that is given an object, with an offset and any field and index.
func atAll(at, field, i int) []call {
	return []call{
		{name: "Type", n: at},
		{name: "Count", n: at},
		{name: "Retain", n: at},
		{name: "Release", n: at},
		{name: "Get", n: at, field: field, i: i},
		{name: "Put", n: at, field: field, i: i, v: 1<<64 - 1},
		{name: "Ptr", n: at, field: field},
		{name: "Swap", n: at, field: field},
		{name: "Place", n: at, field: field},
		{name: "Reclaim", n: at},
	}
}

func made(t *testing.T, l []api.Type, pages int) (*heap.Heap, *model) {
	t.Helper()
	h, err := heap.New(l, pages)
	if err != api.OK || h == nil {
		t.Fatalf("New with %d pages: %v, %v", pages, h, err)
	}
	return h, newModel(l, pages)
}

func memory(t *testing.T, h *heap.Heap) []byte {
	t.Helper()
	b, err := h.Arena().Bytes(0, h.Arena().Len())
	if err != api.OK {
		t.Fatal(err)
	}
	return b
}

// do makes a call of both, and holds the answers against each other. A call that fails, or only asks, may not change a byte.
func do(t *testing.T, h *heap.Heap, m *model, c call) answer {
	t.Helper()
	before := memory(t, h)
	got, want := asked(h, c), asked(m, c)
	if got != want {
		t.Fatalf("%+v: %+v, want %+v", c, got, want)
	}
	if (c.asks() || c.name == "Fail" || want.err != api.OK) && !bytes.Equal(memory(t, h), before) {
		t.Fatalf("%+v: the memory changed", c)
	}
	return got
}

// same holds each byte of all objects against the model, and what can be asked of the whole.
func same(t *testing.T, h *heap.Heap, m *model) {
	t.Helper()
	if h.Used() != m.Used() || h.Pages() != m.Pages() {
		t.Fatalf("Used %d, Pages %d, want %d, %d", h.Used(), h.Pages(), m.Used(), m.Pages())
	}
	all := memory(t, h)
	for _, at := range m.offsets() {
		want := m.block(at)
		if got := all[at : at+len(want)]; !bytes.Equal(got, want) {
			t.Fatalf("object %d: %v, want %v", at, got, want)
		}
	}
	for at := -20; at < len(all)+20; at++ {
		got, ok := h.Type(at)
		if want, there := m.Type(at); got != want || ok != there {
			t.Fatalf("Type(%d): %d, %v, want %d, %v", at, got, ok, want, there)
		}
	}
}

// scribble writes in a field as others do who have the arena: the k-th 8 bytes of it.
func scribble(t *testing.T, h *heap.Heap, m *model, at, field, k int, v uint64) {
	t.Helper()
	place, err := h.Place(at, field)
	if err != api.OK {
		t.Fatalf("Place(%d, %d): %v", at, field, err)
	}
	if err := h.Arena().Store(place+8*k, 8, v); err != api.OK {
		t.Fatalf("Store(%d): %v", place+8*k, err)
	}
	m.objects[at].words[field][k] = v
}
