package pool_test

import (
	"math"
	"testing"

	"turnbuckle/api"
	"turnbuckle/pool"
)

// model is a pool said plainly: whether each page is taken.
type model []bool

func (m model) free() int {
	n := 0
	for _, taken := range m {
		if !taken {
			n++
		}
	}
	return n
}

// run is the first page of the lowest run of n free pages, or -1.
func (m model) run(n int) int {
	length := 0
	for page, taken := range m {
		length++
		if taken {
			length = 0
		}
		if length == n {
			return page - n + 1
		}
	}
	return -1
}

func made(t *testing.T, pages int) *pool.Pool {
	t.Helper()
	p, err := pool.New(pages)
	if err != api.OK || p == nil {
		t.Fatalf("New(%d): %v, %v", pages, p, err)
	}
	return p
}

// laid is a pool in the model's state: all pages are taken, then the free ones given back.
func laid(t *testing.T, m model) *pool.Pool {
	t.Helper()
	p := made(t, len(m))
	for i := range m {
		if page, err := p.Take(); page != i || err != api.OK {
			t.Fatalf("%d pages: Take: %d, %v, want %d", len(m), page, err, i)
		}
	}
	for page, taken := range m {
		if taken {
			continue
		}
		if err := p.Give(page); err != api.OK {
			t.Fatalf("%d pages: Give(%d): %v", len(m), page, err)
		}
	}
	same(t, p, m)
	return p
}

// same holds all that can be asked of a pool against the model.
func same(t *testing.T, p *pool.Pool, m model) {
	t.Helper()
	if p.Len() != len(m) || p.Free() != m.free() {
		t.Fatalf("Len %d, Free %d, want %d, %d", p.Len(), p.Free(), len(m), m.free())
	}
	for page := -130; page <= 260; page++ {
		want := page >= 0 && page < len(m) && m[page]
		if p.Taken(page) != want {
			t.Fatalf("%v: Taken(%d): %v", m, page, !want)
		}
	}
	for _, page := range far {
		if p.Taken(page) {
			t.Fatalf("%v: Taken(%d)", m, page)
		}
	}
}

var far = []int{math.MinInt, math.MinInt + 1, math.MinInt32, 1 << 32, math.MaxInt - 1, math.MaxInt}

// take makes a call that takes n pages, and holds its answer and what it changed against the model.
func take(t *testing.T, p *pool.Pool, m model, n int, call func() (int, api.Errno)) {
	t.Helper()
	want := m.run(n)
	page, err := call()
	if want < 0 {
		if page != 0 || err != api.ErrFull {
			t.Fatalf("%v: taking %d: %d, %v, want ErrFull", m, n, page, err)
		}
		same(t, p, m)
		return
	}
	if page != want || err != api.OK {
		t.Fatalf("%v: taking %d: %d, %v, want %d", m, n, page, err, want)
	}
	for i := range n {
		m[want+i] = true
	}
	same(t, p, m)
}

func takeOne(t *testing.T, p *pool.Pool, m model) {
	t.Helper()
	take(t, p, m, 1, p.Take)
}

func takeRun(t *testing.T, p *pool.Pool, m model, n int) {
	t.Helper()
	take(t, p, m, n, func() (int, api.Errno) { return p.TakeRun(n) })
}

func give(t *testing.T, p *pool.Pool, m model, page int) {
	t.Helper()
	want := api.OK
	switch {
	case page < 0 || page >= len(m):
		want = api.ErrArg
	case !m[page]:
		want = api.ErrNone
	default:
		m[page] = false
	}
	if err := p.Give(page); err != want {
		t.Fatalf("Give(%d): %v, want %v; then %v", page, err, want, m)
	}
	same(t, p, m)
}

// refuse makes every call that is wrong whatever the state, and asks that nothing changed.
func refuse(t *testing.T, p *pool.Pool, m model) {
	t.Helper()
	for _, n := range []int{0, -1, -2, -64, -128, math.MinInt, math.MinInt + 1} {
		if page, err := p.TakeRun(n); page != 0 || err != api.ErrArg {
			t.Fatalf("TakeRun(%d): %d, %v, want ErrArg", n, page, err)
		}
	}
	for _, n := range []int{len(m) + 1, len(m) + 2, 129, 1 << 32, math.MaxInt - 1, math.MaxInt} {
		if page, err := p.TakeRun(n); page != 0 || err != api.ErrFull {
			t.Fatalf("TakeRun(%d): %d, %v, want ErrFull", n, page, err)
		}
	}
	near := []int{-128, -64, -2, -1, len(m), len(m) + 1, len(m) + 64, 128, 129, 192}
	for _, page := range append(near, far...) {
		if err := p.Give(page); err != api.ErrArg {
			t.Fatalf("Give(%d) of %d pages: %v, want ErrArg", page, len(m), err)
		}
	}
	same(t, p, m)
}

func clone(m model) model {
	return append(model{}, m...)
}

// P2.1
func TestNewMakesFreePages(t *testing.T) {
	for pages := 0; pages <= api.MaxPages; pages++ {
		p := made(t, pages)
		same(t, p, make(model, pages))
		refuse(t, p, make(model, pages))
	}
}

// P2.1
func TestNewRefuses(t *testing.T) {
	wrong := []int{-1, -2, -64, -128, 129, 130, 192, 256, 512, 1 << 32, 1<<32 + 4}
	for _, pages := range append(wrong, far...) {
		if p, err := pool.New(pages); p != nil || err != api.ErrArg {
			t.Errorf("New(%d): %v, %v, want ErrArg", pages, p, err)
		}
	}
}

// P2.1, P2.2: a pool that New didn't make has no pages.
func TestPoolsThatNewDidNotMake(t *testing.T) {
	for _, p := range []*pool.Pool{nil, {}, new(pool.Pool)} {
		same(t, p, nil)
		refuse(t, p, nil)
		takeOne(t, p, nil)
		takeRun(t, p, nil, 1)
		takeRun(t, p, nil, 128)
		give(t, p, nil, 0)
		give(t, p, nil, -1)
		give(t, p, nil, 1)
	}
}

// P2.2, P2.3: each call in each state of the small pools.
func TestEveryCallInEveryState(t *testing.T) {
	for pages := range 8 {
		for state := range 1 << pages {
			m := make(model, pages)
			for page := range m {
				m[page] = state>>page&1 == 1
			}
			refuse(t, laid(t, m), m)
			takeOne(t, laid(t, m), clone(m))
			for n := 1; n <= pages+1; n++ {
				takeRun(t, laid(t, m), clone(m), n)
			}
			for page := -1; page <= pages; page++ {
				give(t, laid(t, m), clone(m), page)
			}
		}
	}
}

// P2.2: runs of all lengths on both sides of each single taken page, those that end at the last page among them.
func TestRunsBrokenByOnePage(t *testing.T) {
	for _, pages := range []int{63, 64, 65, 100, 127, 128} {
		for broken := range pages {
			m := make(model, pages)
			m[broken] = true
			for _, n := range []int{1, 2, broken - 1, broken, broken + 1, pages - broken - 2, pages - broken - 1, pages - broken, pages - 1, pages} {
				if n >= 1 {
					takeRun(t, laid(t, m), clone(m), n)
				}
			}
		}
	}
}

// P2.2: a run that just fits between two taken pages, at each place.
func TestRunsBetweenPages(t *testing.T) {
	const pages = api.MaxPages
	for _, n := range []int{1, 2, 3, 63, 64, 65} {
		for first := 0; first+n <= pages; first++ {
			m := make(model, pages)
			for page := range m {
				m[page] = page < first || page >= first+n
			}
			p := laid(t, m)
			takeRun(t, p, m, n+1)
			takeRun(t, p, m, n)
			if p.Free() != 0 {
				t.Fatalf("Free: %d", p.Free())
			}
			takeOne(t, p, m)
		}
	}
}

// P2.2: the whole pool as one run, for each number of pages.
func TestRunOfAllPages(t *testing.T) {
	for pages := 1; pages <= api.MaxPages; pages++ {
		p, m := made(t, pages), make(model, pages)
		takeRun(t, p, m, pages+1)
		takeRun(t, p, m, pages)
		takeRun(t, p, m, 1)
		takeOne(t, p, m)
		give(t, p, m, pages-1)
		takeRun(t, p, m, 2)
		takeRun(t, p, m, 1)
	}
}

// P2.2: a run's pages go back one at a time, in any order, each of them once.
func TestRunGivenBackInAnyOrder(t *testing.T) {
	// A prime, so that every stride reaches all pages.
	const pages = 127
	for _, stride := range []int{1, 2, 7, 60, 125, 126} {
		p, m := made(t, pages), make(model, pages)
		takeRun(t, p, m, pages)
		for i := range pages {
			page := (i + 1) * stride % pages
			give(t, p, m, page)
			give(t, p, m, page)
		}
		if p.Free() != pages {
			t.Fatalf("Free: %d", p.Free())
		}
	}
}

// P2.3: a page that went back is the next that Take returns, unless a lower one is free.
func TestPageGivenBackIsNext(t *testing.T) {
	const pages = api.MaxPages
	for high := 1; high < pages; high++ {
		m := make(model, pages)
		for page := range m {
			m[page] = true
		}
		p := laid(t, m)
		give(t, p, m, high)
		if page, err := p.Take(); page != high || err != api.OK {
			t.Fatalf("Take: %d, %v, want %d", page, err, high)
		}
		low := high / 2
		if p.Give(low) != api.OK || p.Give(high) != api.OK {
			t.Fatalf("Give(%d), Give(%d)", low, high)
		}
		for _, want := range []int{low, high} {
			if page, err := p.Take(); page != want || err != api.OK {
				t.Fatalf("Take: %d, %v, want %d", page, err, want)
			}
		}
	}
}

// P2.3: over long ways no page is taken twice, and each is free or taken.
func TestLongWay(t *testing.T) {
	for _, pages := range []int{1, 5, 64, 65, 128} {
		p, m := made(t, pages), make(model, pages)
		seed := uint64(pages)
		draw := func(n int) int {
			seed = seed*6364136223846793005 + 1442695040888963407
			return int(seed>>33) % n
		}
		for range 4000 {
			switch draw(6) {
			case 0:
				takeOne(t, p, m)
			case 1:
				takeRun(t, p, m, 1+draw(pages/4+2))
			default:
				give(t, p, m, draw(pages+2)-1)
			}
		}
	}
}

// R4: pools don't share their pages.
func TestPoolsAreApart(t *testing.T) {
	p, q := made(t, 4), made(t, 4)
	m, n := make(model, 4), make(model, 4)
	takeRun(t, p, m, 3)
	same(t, q, n)
	takeOne(t, q, n)
	same(t, p, m)
	give(t, p, m, 0)
	same(t, q, n)
}

// The chapter's example.
func TestExample(t *testing.T) {
	p := made(t, 4)
	steps := []struct {
		call func() (int, api.Errno)
		page int
		err  api.Errno
	}{
		{p.Take, 0, api.OK},
		{p.Take, 1, api.OK},
		{func() (int, api.Errno) { return 0, p.Give(0) }, 0, api.OK},
		{func() (int, api.Errno) { return p.TakeRun(2) }, 2, api.OK},
		{p.Take, 0, api.OK},
		{p.Take, 0, api.ErrFull},
	}
	for i, s := range steps {
		if page, err := s.call(); page != s.page || err != s.err {
			t.Fatalf("step %d: %d, %v, want %d, %v", i, page, err, s.page, s.err)
		}
	}
}
