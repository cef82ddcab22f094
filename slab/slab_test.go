package slab_test

import (
	"math"
	"slices"
	"testing"

	"turnbuckle/api"
	"turnbuckle/arena"
	"turnbuckle/slab"
)

const (
	never = iota // since the page was assigned
	allocated
	freed
)

// modelPage is a page said plainly: each block's state, and the freed blocks in the order in which they were freed.
type modelPage struct {
	class  int // 0: unassigned
	states []int
	freed  []int
}

// model is a slab said plainly, with what the test wrote in each allocated block.
type model struct {
	pages []modelPage
	tags  map[int]byte
}

func newModel(pages int) *model {
	return &model{pages: make([]modelPage, pages), tags: map[int]byte{}}
}

func classOf(size int) int {
	switch {
	case size <= 16:
		return 16
	case size <= 32:
		return 32
	case size <= 64:
		return 64
	case size <= 128:
		return 128
	}
	return 256
}

// choosePage is the page that P3.2 names, or 0 if there is none.
func (m *model) choosePage(class int) int {
	for number, p := range m.pages {
		if p.class == class && (len(p.freed) > 0 || slices.Contains(p.states, never)) {
			return number
		}
	}
	for number, p := range m.pages {
		if number != 0 && p.class == 0 {
			m.pages[number] = modelPage{class: class, states: make([]int, 512/class)}
			return number
		}
	}
	return 0
}

// alloc is the offset that P3.2 names, or 0 if the slab is full.
func (m *model) alloc(size int) int {
	class := classOf(size)
	number := m.choosePage(class)
	if number == 0 {
		return 0
	}
	p := &m.pages[number]
	block := slices.Index(p.states, never)
	if last := len(p.freed) - 1; last >= 0 {
		block = p.freed[last]
		p.freed = p.freed[:last]
	}
	p.states[block] = allocated
	return number*512 + block*class
}

func (m *model) free(at int) {
	p := &m.pages[at/512]
	block := at % 512 / p.class
	p.states[block] = freed
	p.freed = append(p.freed, block)
	if !slices.Contains(p.states, allocated) {
		m.pages[at/512] = modelPage{}
	}
	delete(m.tags, at)
}

// blocks is the class of each allocated block by its offset.
func (m *model) blocks() map[int]int {
	out := map[int]int{}
	for number, p := range m.pages {
		for i, state := range p.states {
			if state == allocated {
				out[number*512+i*p.class] = p.class
			}
		}
	}
	return out
}

// offsets are those of the allocated blocks, rising.
func (m *model) offsets() []int {
	var out []int
	for at := range m.blocks() {
		out = append(out, at)
	}
	slices.Sort(out)
	return out
}

var far = []int{math.MinInt, math.MinInt + 1, math.MinInt + 512, math.MinInt32, -1 << 16, 1 << 17, 1 << 32, 1<<32 + 512, math.MaxInt - 511, math.MaxInt - 1, math.MaxInt}

var wrongSizes = []int{0, -1, -2, -16, -256, 257, 258, 512, 1<<32 + 16, math.MinInt, math.MinInt + 1, math.MaxInt - 1, math.MaxInt}

func made(t *testing.T, pages int) *slab.Slab {
	t.Helper()
	s, err := slab.New(pages)
	if err != api.OK || s == nil {
		t.Fatalf("New(%d): %v, %v", pages, s, err)
	}
	return s
}

// same holds all that can be asked of a slab, and the contents of its allocated blocks, against the model.
func same(t *testing.T, s *slab.Slab, m *model) {
	t.Helper()
	blocks := m.blocks()
	used, assigned := 0, 0
	for _, class := range blocks {
		used += class
	}
	for _, p := range m.pages {
		if p.class != 0 {
			assigned++
		}
	}
	if s.Used() != used || s.Pages() != assigned {
		t.Fatalf("Used %d, Pages %d, want %d, %d", s.Used(), s.Pages(), used, assigned)
	}
	for at := -600; at < 512*len(m.pages)+600; at++ {
		class, ok := s.Block(at)
		if want, there := blocks[at]; class != want || ok != there {
			t.Fatalf("Block(%d): %d, %v, want %d, %v", at, class, ok, want, there)
		}
	}
	for _, at := range far {
		if class, ok := s.Block(at); class != 0 || ok {
			t.Fatalf("Block(%d): %d, %v", at, class, ok)
		}
	}
	for at, tag := range m.tags {
		filledWith(t, s, at, blocks[at], tag)
	}
}

func filledWith(t *testing.T, s *slab.Slab, at, n int, v byte) {
	t.Helper()
	b, err := s.Arena().Bytes(at, n)
	if err != api.OK || len(b) != n {
		t.Fatalf("Bytes(%d, %d): %d of them, %v", at, n, len(b), err)
	}
	for i, got := range b {
		if got != v {
			t.Fatalf("byte %d of the %d at %d is %d, want %d", i, n, at, got, v)
		}
	}
}

// alloc allocates in both, and holds the answer against the model's; the new block's bytes are set to a tag.
func alloc(t *testing.T, s *slab.Slab, m *model, size int) int {
	t.Helper()
	want := m.alloc(size)
	err := api.OK
	if want == 0 {
		err = api.ErrFull
	}
	if at, e := s.Alloc(size); at != want || e != err {
		t.Fatalf("Alloc(%d): %d, %v, want %d, %v", size, at, e, want, err)
	}
	if want == 0 {
		return 0
	}
	class := m.pages[want/512].class
	filledWith(t, s, want, class, 0)
	tag := byte(1 + (len(m.tags)*7+want/16)%255)
	s.Arena().Fill(want, class, tag)
	m.tags[want] = tag
	return want
}

// free frees in both, whether or not a block is there.
func free(t *testing.T, s *slab.Slab, m *model, at int) {
	t.Helper()
	want := api.ErrArg
	if m.blocks()[at] != 0 {
		want = api.OK
		m.free(at)
	}
	if err := s.Free(at); err != want {
		t.Fatalf("Free(%d): %v, want %v", at, err, want)
	}
}

// refuse makes every call that is wrong in this state, and asks that nothing changed.
func refuse(t *testing.T, s *slab.Slab, m *model) {
	t.Helper()
	for _, size := range wrongSizes {
		if at, err := s.Alloc(size); at != 0 || err != api.ErrArg {
			t.Fatalf("Alloc(%d): %d, %v, want ErrArg", size, at, err)
		}
	}
	blocks := m.blocks()
	for at := -600; at < 512*len(m.pages)+600; at++ {
		if blocks[at] != 0 {
			continue
		}
		if err := s.Free(at); err != api.ErrArg {
			t.Fatalf("Free(%d): %v, want ErrArg", at, err)
		}
	}
	for _, at := range far {
		if err := s.Free(at); err != api.ErrArg {
			t.Fatalf("Free(%d): %v, want ErrArg", at, err)
		}
	}
	same(t, s, m)
}

// draws is a fixed row of numbers below n that look drawn.
func draws(seed uint64) func(n int) int {
	return func(n int) int {
		seed = seed*6364136223846793005 + 1442695040888963407
		return int(seed>>33) % n
	}
}

// P3.1
func TestNew(t *testing.T) {
	for pages := 1; pages <= 128; pages++ {
		s := made(t, pages)
		if s.Arena().Len() != 512*pages {
			t.Fatalf("New(%d): an arena of %d bytes", pages, s.Arena().Len())
		}
		filledWith(t, s, 0, 512*pages, 0)
		same(t, s, newModel(pages))
		refuse(t, s, newModel(pages))
	}
}

// P3.1
func TestNewRefuses(t *testing.T) {
	wrong := []int{0, -1, -2, -128, 129, 130, 256, 512, 1 << 23, 1<<32 + 4, 1 << 55, 1<<55 + 4}
	for _, pages := range append(wrong, far...) {
		if s, err := slab.New(pages); s != nil || err != api.ErrArg {
			t.Errorf("New(%d): %v, %v, want ErrArg", pages, s, err)
		}
	}
}

// P3.1: the arena itself, each slab its own.
func TestArenaIsTheSlabsOwn(t *testing.T) {
	s, other := made(t, 4), made(t, 4)
	if s.Arena() == nil || s.Arena() != s.Arena() || s.Arena() == other.Arena() {
		t.Fatal("not one arena for each slab")
	}
	before := s.Arena()
	at, _ := s.Alloc(8)
	if before.Store(at, 8, 77) != api.OK {
		t.Fatal("Store")
	}
	if v, _ := s.Arena().Load(at, 8); v != 77 {
		t.Fatalf("Load: %d, want 77", v)
	}
	if s.Arena() != before {
		t.Fatal("another arena after Alloc")
	}
	same(t, other, newModel(4))
	filledWith(t, other, 0, 2048, 0)
}

// P3.1, P3.4: a slab that is nil, or that New didn't make.
func TestSlabsThatNewDidNotMake(t *testing.T) {
	for _, s := range []*slab.Slab{nil, {}, new(slab.Slab)} {
		var none *arena.Arena
		if s.Arena() != none {
			t.Fatal("an arena")
		}
		refuse(t, s, newModel(0))
		for size := 1; size <= 256; size++ {
			if at, err := s.Alloc(size); at != 0 || err != api.ErrFull {
				t.Fatalf("Alloc(%d): %d, %v, want ErrFull", size, at, err)
			}
		}
		same(t, s, newModel(0))
	}
}

// P3.2, P3.4: each size in a slab of its own, and beside a block of each class.
func TestClassOfEachSize(t *testing.T) {
	for size := 1; size <= 256; size++ {
		want := classOf(size)
		s, m := made(t, 7), newModel(7)
		at := alloc(t, s, m, size)
		if class, ok := s.Block(at); at != 512 || class != want || !ok || s.Used() != want || s.Pages() != 1 {
			t.Fatalf("size %d: at %d, class %d, %v, Used %d, Pages %d", size, at, class, ok, s.Used(), s.Pages())
		}
		for _, class := range []int{16, 32, 64, 128, 256} {
			alloc(t, s, m, class)
		}
		alloc(t, s, m, size)
		same(t, s, m)
	}
}

// P3.2: each class's own size and the one above it.
func TestClassEdges(t *testing.T) {
	for _, c := range []struct{ size, class int }{{1, 16}, {15, 16}, {16, 16}, {17, 32}, {31, 32}, {32, 32}, {33, 64}, {63, 64}, {64, 64}, {65, 128}, {127, 128}, {128, 128}, {129, 256}, {255, 256}, {256, 256}} {
		s := made(t, 2)
		at, err := s.Alloc(c.size)
		class, ok := s.Block(at)
		if at != 512 || err != api.OK || class != c.class || !ok {
			t.Errorf("Alloc(%d): %d, %v; its class %d, %v, want %d", c.size, at, err, class, ok, c.class)
		}
	}
}

// P3.2: page 0 is never assigned, so that one page is none.
func TestOnePage(t *testing.T) {
	s, m := made(t, 1), newModel(1)
	for size := 1; size <= 256; size++ {
		if at, err := s.Alloc(size); at != 0 || err != api.ErrFull {
			t.Fatalf("Alloc(%d): %d, %v, want ErrFull", size, at, err)
		}
	}
	refuse(t, s, m)
	filledWith(t, s, 0, 512, 0)
}

// P3.2, P3.4, P3.5: slabs filled with one class, from the lowest offset to the highest, and emptied.
func TestFullOfOneClass(t *testing.T) {
	for _, pages := range []int{2, 3, 128} {
		for _, class := range []int{16, 32, 64, 128, 256} {
			s, m := made(t, pages), newModel(pages)
			for at := 512; at < 512*pages; at += class {
				if got, err := s.Alloc(class); got != at || err != api.OK {
					t.Fatalf("Alloc(%d): %d, %v, want %d", class, got, err, at)
				}
				m.alloc(class)
			}
			for _, size := range []int{1, 16, 17, 33, 65, 129, 256} {
				alloc(t, s, m, size)
			}
			refuse(t, s, m)
			for at := 512; at < 512*pages; at += class {
				if err := s.Free(at); err != api.OK {
					t.Fatalf("Free(%d): %v", at, err)
				}
			}
			if s.Used() != 0 || s.Pages() != 0 {
				t.Fatalf("Used %d, Pages %d after all was freed", s.Used(), s.Pages())
			}
			same(t, s, newModel(pages))
		}
	}
}

// P3.2: a full slab has room for the class of a block that went, and for no other while its page is assigned.
func TestRoomInFullSlab(t *testing.T) {
	s, m := made(t, 3), newModel(3)
	for range 4 {
		alloc(t, s, m, 128)
	}
	for range 2 {
		alloc(t, s, m, 256)
	}
	free(t, s, m, 640)
	for _, size := range []int{1, 17, 33, 129} {
		if at, err := s.Alloc(size); at != 0 || err != api.ErrFull {
			t.Fatalf("Alloc(%d): %d, %v, want ErrFull", size, at, err)
		}
	}
	same(t, s, m)
	if at := alloc(t, s, m, 65); at != 640 {
		t.Fatalf("Alloc(65): %d, want 640", at)
	}
	refuse(t, s, m)
}

// P3.2: the block that was freed last is the first to go, ahead of those that never went.
func TestFreedLastIsFirst(t *testing.T) {
	for _, class := range []int{16, 32, 64, 128} {
		blocks := 512 / class
		for out := 2; out <= blocks; out++ {
			for stride := 1; stride < out; stride++ {
				s, m := made(t, 3), newModel(3)
				for range out {
					alloc(t, s, m, class)
				}
				var order []int
				for i := range out - 1 {
					if at := 512 + class*(i*stride%out); !slices.Contains(order, at) {
						order = append(order, at)
						free(t, s, m, at)
					}
				}
				slices.Reverse(order)
				for _, want := range order {
					if at := alloc(t, s, m, class); at != want {
						t.Fatalf("class %d: %d, want %d", class, at, want)
					}
				}
				want := 512 + class*out
				if at := alloc(t, s, m, class); at != want {
					t.Fatalf("class %d: %d, want %d", class, at, want)
				}
				same(t, s, m)
			}
		}
	}
}

// P3.2: the lowest page of the class with a free block goes first, even where the block of a higher page was freed last.
func TestLowestPageFirst(t *testing.T) {
	s, m := made(t, 5), newModel(5)
	for range 4 {
		alloc(t, s, m, 256)
	}
	alloc(t, s, m, 16)
	alloc(t, s, m, 256)
	free(t, s, m, 768)
	free(t, s, m, 1024)
	for _, want := range []int{768, 1024, 2304, 0} {
		if at := alloc(t, s, m, 256); at != want {
			t.Fatalf("Alloc(256): %d, want %d", at, want)
		}
	}
	same(t, s, m)
}

// P3.3: a page whose last block goes is unassigned: another class takes it, and what was freed in it before is forgotten.
func TestPageTakenByAnotherClass(t *testing.T) {
	classes := []int{16, 32, 64, 128, 256}
	for _, first := range classes {
		for _, second := range classes {
			s, m := made(t, 2), newModel(2)
			var ats []int
			for range 512 / first {
				ats = append(ats, alloc(t, s, m, first))
			}
			for _, at := range ats {
				if s.Pages() != 1 {
					t.Fatalf("Pages %d ahead of the last block", s.Pages())
				}
				if second != first {
					alloc(t, s, m, second)
				}
				free(t, s, m, at)
			}
			same(t, s, m)
			refuse(t, s, m)
			for i := range 512 / second {
				if at := alloc(t, s, m, second); at != 512+second*i {
					t.Fatalf("%d after %d: Alloc: %d, want %d", second, first, at, 512+second*i)
				}
				same(t, s, m)
			}
			alloc(t, s, m, second)
		}
	}
}

// P3.2, P3.3: the lowest unassigned page is assigned, whichever order they became so in.
func TestLowestUnassignedPage(t *testing.T) {
	for low := 1; low < 6; low++ {
		for high := low + 1; high < 6; high++ {
			for _, order := range [][]int{{low, high}, {high, low}} {
				s, m := made(t, 6), newModel(6)
				for range 10 {
					alloc(t, s, m, 256)
				}
				for _, number := range order {
					free(t, s, m, 512*number+256)
					free(t, s, m, 512*number)
				}
				if s.Pages() != 3 {
					t.Fatalf("Pages %d, want 3", s.Pages())
				}
				if at := alloc(t, s, m, 64); at != 512*low {
					t.Fatalf("Alloc(64): %d, want %d", at, 512*low)
				}
				if at := alloc(t, s, m, 32); at != 512*high {
					t.Fatalf("Alloc(32): %d, want %d", at, 512*high)
				}
				same(t, s, m)
			}
		}
	}
}

// P3.3: what isn't an allocated block's offset is refused: places in a block, free blocks, those freed already.
func TestFreeRefuses(t *testing.T) {
	s, m := made(t, 6), newModel(6)
	for _, class := range []int{16, 32, 64, 128, 256} {
		for range min(3, 512/class) {
			alloc(t, s, m, class)
		}
	}
	refuse(t, s, m)
	for _, at := range m.offsets() {
		free(t, s, m, at)
		if err := s.Free(at); err != api.ErrArg {
			t.Fatalf("Free(%d) again: %v, want ErrArg", at, err)
		}
		refuse(t, s, m)
	}
}

// P3.2: the bytes are 0 whatever was written: in an unassigned page, in a block that never went, or in one ahead of being freed.
func TestBytesAreZero(t *testing.T) {
	for _, class := range []int{16, 32, 64, 128, 256} {
		s := made(t, 3)
		s.Arena().Fill(0, 1536, 0xff)
		for range 3 {
			var ats []int
			for range 512 / class {
				at, err := s.Alloc(class)
				if err != api.OK {
					t.Fatalf("Alloc(%d): %v", class, err)
				}
				filledWith(t, s, at, class, 0)
				s.Arena().Fill(at, class, 0xff)
				ats = append(ats, at)
			}
			for _, at := range ats[1:] {
				s.Free(at)
			}
			at, _ := s.Alloc(class)
			filledWith(t, s, at, class, 0)
			s.Free(at)
			s.Free(ats[0])
			if s.Pages() != 0 {
				t.Fatalf("Pages %d", s.Pages())
			}
		}
	}
}

// P3.5: neither Alloc nor Free writes outside the block it is about; page 0 and unassigned pages keep their bytes too.
func TestOtherBytesStay(t *testing.T) {
	s := made(t, 4)
	a, _ := s.Alloc(64)
	b, _ := s.Alloc(64)
	c, _ := s.Alloc(64)
	s.Arena().Fill(0, 512, 1)
	s.Arena().Fill(a, 64, 2)
	s.Arena().Fill(c, 64, 3)
	s.Arena().Fill(1024, 1024, 4)
	for range 3 {
		if s.Free(b) != api.OK {
			t.Fatalf("Free(%d)", b)
		}
		if at, _ := s.Alloc(64); at != b {
			t.Fatalf("Alloc: %d, want %d", at, b)
		}
		filledWith(t, s, b, 64, 0)
	}
	filledWith(t, s, 0, 512, 1)
	filledWith(t, s, a, 64, 2)
	filledWith(t, s, c, 64, 3)
	filledWith(t, s, 1024, 1024, 4)
}

// P3.2 to P3.5: each way of a few calls in a small slab.
func TestEveryWay(t *testing.T) {
	var walk func(way []int, depth int)
	walk = func(way []int, depth int) {
		s, m := made(t, 3), newModel(3)
		for _, step := range way {
			if step < 0 {
				alloc(t, s, m, -step)
			} else {
				free(t, s, m, step)
			}
		}
		same(t, s, m)
		if depth == 0 {
			return
		}
		for _, step := range append([]int{-128, -256}, m.offsets()...) {
			walk(append(slices.Clone(way), step), depth-1)
		}
	}
	walk(nil, 7)
}

// P3.2 to P3.5: long ways, that fill and empty slabs of all classes again and again.
func TestLongWay(t *testing.T) {
	for _, pages := range []int{2, 3, 8, 20, 128} {
		s, m := made(t, pages), newModel(pages)
		draw := draws(uint64(pages))
		steps := 6000 / pages * min(pages, 8)
		for step := range steps {
			// The tide turns, so that the slab is now nearly full and now nearly empty.
			fills := 2 + step/(40*pages)%2*4
			if draw(8) < fills {
				alloc(t, s, m, 1+draw(1+255>>draw(5)))
			} else if offsets := m.offsets(); len(offsets) > 0 {
				free(t, s, m, offsets[draw(len(offsets))])
			}
			if pages <= 8 || step%500 == 0 {
				same(t, s, m)
			}
		}
		refuse(t, s, m)
		for _, at := range m.offsets() {
			free(t, s, m, at)
		}
		same(t, s, newModel(pages))
	}
}

// P3.5 and P1 of the whole: whoever writes in free blocks spoils the order in which they go at most.
func TestSpoiledLinks(t *testing.T) {
	for _, class := range []int{16, 64, 256} {
		for _, v := range []uint64{0, 1, 512, 512 + uint64(class), 512 + 8, 1024, 1 << 16, 1<<63 + 512, math.MaxUint64} {
			s := made(t, 2)
			blocks := 512 / class
			for range blocks {
				s.Alloc(class)
			}
			// The lowest block stays, so that the page does too.
			for i := 1; i < blocks; i++ {
				s.Free(512 + class*i)
				for at := 512 + class; at <= 512+class*i; at += 8 {
					s.Arena().Store(at, 8, v)
				}
			}
			var ats []int
			for range blocks - 1 {
				at, err := s.Alloc(class)
				if err != api.OK {
					t.Fatalf("class %d, links %d: Alloc: %v", class, v, err)
				}
				filledWith(t, s, at, class, 0)
				ats = append(ats, at)
			}
			slices.Sort(ats)
			for i, at := range ats {
				if at != 512+class*(i+1) {
					t.Fatalf("class %d, links %d: the blocks %v", class, v, ats)
				}
			}
			if at, err := s.Alloc(class); at != 0 || err != api.ErrFull {
				t.Fatalf("class %d, links %d: Alloc: %d, %v, want ErrFull", class, v, at, err)
			}
		}
	}
}

// P3.2: what is written in blocks that never went changes neither their order nor their bytes when they go.
func TestBlocksThatNeverWentWrittenOver(t *testing.T) {
	for _, class := range []int{16, 32, 64, 128, 256} {
		for _, v := range []byte{0, 1, 2, 0x80, 0xff} {
			s := made(t, 2)
			for want := 512; want < 1024; want += class {
				if at, err := s.Alloc(class); at != want || err != api.OK {
					t.Fatalf("class %d, bytes %d: Alloc: %d, %v, want %d", class, v, at, err, want)
				}
				filledWith(t, s, want, class, 0)
				s.Arena().Fill(want+class, 1024-want-class, v)
			}
		}
	}
}

// R4: slabs don't share their blocks.
func TestSlabsAreApart(t *testing.T) {
	s, m := made(t, 4), newModel(4)
	other, n := made(t, 4), newModel(4)
	alloc(t, s, m, 100)
	alloc(t, s, m, 10)
	same(t, other, n)
	alloc(t, other, n, 200)
	same(t, s, m)
	free(t, s, m, 512)
	same(t, other, n)
	free(t, other, n, 1024)
	same(t, s, m)
}

// The chapter's example.
func TestExample(t *testing.T) {
	s := made(t, 4)
	for _, c := range []struct{ size, at int }{{10, 512}, {16, 528}, {17, 1024}} {
		if at, err := s.Alloc(c.size); at != c.at || err != api.OK {
			t.Fatalf("Alloc(%d): %d, %v, want %d", c.size, at, err, c.at)
		}
	}
	if err := s.Free(512); err != api.OK {
		t.Fatalf("Free(512): %v", err)
	}
	if at, err := s.Alloc(3); at != 512 || err != api.OK {
		t.Fatalf("Alloc(3): %d, %v, want 512", at, err)
	}
	if s.Used() != 64 {
		t.Fatalf("Used: %d, want 64", s.Used())
	}
	if class, ok := s.Block(528); class != 16 || !ok {
		t.Fatalf("Block(528): %d, %v", class, ok)
	}
	if class, ok := s.Block(529); class != 0 || ok {
		t.Fatalf("Block(529): %d, %v", class, ok)
	}
}
