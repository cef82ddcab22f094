package chain_test

import (
	"bytes"
	"math"
	"slices"
	"strconv"
	"testing"

	"turnbuckle/api"
	"turnbuckle/arena"
	"turnbuckle/chain"
)

// key tells two arrangements of nodes apart.
func (m *model) key() string {
	s := ""
	for _, head := range m.heads {
		s += "/"
		for _, node := range m.lists[head] {
			s += strconv.Itoa(node) + " "
		}
	}
	return s
}

// replay does calls anew, so that heads and nodes are changed by the package only.
func replay(t *testing.T, length int, heads, nodes []int, path []op) (*arena.Arena, *model) {
	t.Helper()
	m := newModel(length, heads, nodes)
	a := made(t, m)
	for _, o := range path {
		do(t, a, m, o)
	}
	return a, m
}

// checkEverywhere does each call in each arrangement that the nodes can have, and tells how many arrangements there were.
func checkEverywhere(t *testing.T, length int, heads, nodes []int) int {
	t.Helper()
	_, start := replay(t, length, heads, nodes, nil)
	paths := map[string][]op{start.key(): nil}
	for open := []string{start.key()}; len(open) > 0; open = open[1:] {
		path := paths[open[0]]
		for _, o := range start.ops() {
			a, m := replay(t, length, heads, nodes, path)
			do(t, a, m, o)
			same(t, a, m)
			if _, known := paths[m.key()]; !known {
				paths[m.key()] = append(slices.Clone(path), o)
				open = append(open, m.key())
			}
		}
	}
	return len(paths)
}

// P10.1, P10.2, P10.3, P10.4, P2: every call in every arrangement of four nodes in two lists.
func TestEveryCallInEveryArrangement(t *testing.T) {
	// k of the 4 nodes in any order, and k+1 places where the second list begins.
	const arrangements = 1 + 4*2 + 12*3 + 24*4 + 24*5
	if n := checkEverywhere(t, 128, []int{8, 16}, []int{32, 48, 64, 96}); n != arrangements {
		t.Errorf("%d arrangements, want %d", n, arrangements)
	}
}

// P10.1, P10.2, P10.3: heads and nodes right behind each other, at offsets of no order, from the first to the last that may be.
func TestEveryCallAtOddOffsets(t *testing.T) {
	checkEverywhere(t, 1+16+8+16+8+16, []int{17, 41}, []int{49, 1, 25})
	checkEverywhere(t, 1+8+16+16+8, []int{41, 1}, []int{9, 25})
}

// P10.1 to P10.3: offsets with bits in both of their bytes, in the largest arena.
func TestLargestArena(t *testing.T) {
	const length = 65536
	checkEverywhere(t, length, []int{length - 8}, []int{1, length - 24})
	checkEverywhere(t, length, []int{0x0100}, []int{0x0200, length - 16})
}

// P10.4: from the last node, the previous nodes lead back to the first.
func TestReverse(t *testing.T) {
	a, _ := arena.New(1024)
	var want []int
	for i := range 20 {
		node := 32 + 16*(i*7%20)
		if err := chain.Push(a, 8, node, i%3 == 0); err != api.OK {
			t.Fatal(err)
		}
		if i%3 == 0 {
			want = append(want, node)
		} else {
			want = slices.Insert(want, 0, node)
		}
	}
	var back []int
	node, err := chain.End(a, 8, false)
	for node != 0 && err == api.OK {
		back = append(back, node)
		node, err = chain.Next(a, node, false)
	}
	if !slices.Equal(back, want) || err != api.OK {
		t.Errorf("%v, %v, want %v", back, err, want)
	}
}

// P10.4, P2: what was pushed at an end is popped there, and all else comes out once.
func TestPushThenPop(t *testing.T) {
	for _, front := range []bool{true, false} {
		for others := range 4 {
			a, _ := arena.New(256)
			for i := range others {
				chain.Push(a, 8, 32+16*i, i%2 == 0)
			}
			before := contents(t, a)
			if err := chain.Push(a, 8, 128, front); err != api.OK {
				t.Error(err)
			}
			if node, err := chain.Pop(a, 8, front); node != 128 || err != api.OK {
				t.Errorf("popped %d, %v", node, err)
			}
			if !bytes.Equal(contents(t, a), before) {
				t.Errorf("front %v, %d others: %v became %v", front, others, before, contents(t, a))
			}
		}
	}
}

// P10.1 to P10.4: many calls on lists that grow long, by a rule that picks them without order.
func TestManyCalls(t *testing.T) {
	var nodes []int
	for i := range 40 {
		nodes = append(nodes, 100+17*i)
	}
	m := newModel(1024, []int{3, 40, 900}, nodes)
	a := made(t, m)
	ops := m.ops()
	seed := uint64(1)
	for range 3000 {
		seed = seed*6364136223846793005 + 1442695040888963407
		do(t, a, m, ops[seed>>33%uint64(len(ops))])
		same(t, a, m)
	}
}

// P10.1, P10.3: as many nodes as there is room for, then all of them out again.
func TestFullArena(t *testing.T) {
	a, _ := arena.New(65536)
	var want []int
	for node := 16; node <= 65536-16; node += 16 {
		if err := chain.Push(a, 8, node, false); err != api.OK {
			t.Fatalf("Push(%d): %v", node, err)
		}
		want = append(want, node)
	}
	if l, err := chain.All(a, 8); !slices.Equal(l, want) || err != api.OK {
		t.Errorf("All: %d nodes, %v", len(l), err)
	}
	for _, node := range want {
		if n, err := chain.Pop(a, 8, true); n != node || err != api.OK {
			t.Fatalf("Pop: %d, %v, want %d", n, err, node)
		}
	}
	if !bytes.Equal(contents(t, a), make([]byte, 65536)) {
		t.Error("a byte isn't 0 when all lists are empty")
	}
}

// R3: the list that is answered and the arena don't share memory, nor do two answers.
func TestAllIsTheCallers(t *testing.T) {
	a, _ := arena.New(128)
	chain.Push(a, 8, 32, false)
	chain.Push(a, 8, 64, false)
	one, _ := chain.All(a, 8)
	two, _ := chain.All(a, 8)
	clear(one)
	_ = append(one[:0], 96, 96, 96)
	if !slices.Equal(two, []int{32, 64}) {
		t.Errorf("a change of an answer reached another: %v", two)
	}
	if l, err := chain.All(a, 8); !slices.Equal(l, []int{32, 64}) || err != api.OK {
		t.Errorf("a change of an answer reached the arena: %v, %v", l, err)
	}
}

// R4: lists in one arena aren't seen in another.
func TestArenasAreApart(t *testing.T) {
	a, _ := arena.New(128)
	b, _ := arena.New(128)
	chain.Push(a, 8, 32, true)
	if l, err := chain.All(b, 8); len(l) != 0 || err != api.OK {
		t.Error(l, err)
	}
	if err := chain.Push(b, 16, 32, true); err != api.OK {
		t.Error(err)
	}
	if owner, err := chain.Owner(a, 32); owner != 8 || err != api.OK {
		t.Error(owner, err)
	}
}

// wantRange holds an answer against ErrRange with nothing beside it.
func wantRange(t *testing.T, a *arena.Arena, name string, n int, l []int, err api.Errno) {
	t.Helper()
	if n != 0 || len(l) != 0 || err != api.ErrRange {
		t.Errorf("%s, length %d: %d, %v, %v", name, a.Len(), n, l, err)
	}
}

// wrongHead asks the calls that take a head alone.
func wrongHead(t *testing.T, a *arena.Arena, head int) {
	t.Helper()
	name := " of head " + strconv.Itoa(head)
	for _, front := range []bool{true, false} {
		n, err := chain.Pop(a, head, front)
		wantRange(t, a, "Pop"+name, n, nil, err)
		n, err = chain.End(a, head, front)
		wantRange(t, a, "End"+name, n, nil, err)
	}
	l, err := chain.All(a, head)
	wantRange(t, a, "All"+name, 0, l, err)
}

// wrongNode asks the calls that take a node alone.
func wrongNode(t *testing.T, a *arena.Arena, node int) {
	t.Helper()
	name := " of node " + strconv.Itoa(node)
	for _, front := range []bool{true, false} {
		n, err := chain.Next(a, node, front)
		wantRange(t, a, "Next"+name, n, nil, err)
	}
	n, err := chain.Owner(a, node)
	wantRange(t, a, "Owner"+name, n, nil, err)
}

// wrongPair asks the calls that take both.
func wrongPair(t *testing.T, a *arena.Arena, head, node int) {
	t.Helper()
	name := " of head " + strconv.Itoa(head) + " and node " + strconv.Itoa(node)
	wantRange(t, a, "Push"+name, 0, nil, chain.Push(a, head, node, true))
	wantRange(t, a, "Push"+name, 0, nil, chain.Push(a, head, node, false))
	wantRange(t, a, "Remove"+name, 0, nil, chain.Remove(a, head, node))
}

// outside are offsets at which nothing of that size can be in an arena of that length.
func outside(length, size int) []int {
	l := []int{0, -1, -size, -length, math.MinInt, math.MinInt + 1, math.MinInt + size, math.MaxInt, math.MaxInt - 1, math.MaxInt - size, math.MaxInt - size + 1, 1 << 32, 1<<32 + 8, 1<<32 + 32}
	for at := length + 1; at > length-size; at-- {
		l = append(l, at)
	}
	return l
}

// ErrRange comes ahead of ErrRef and ErrNone, and nothing is changed: the node at 32 is in the list at 8, that at 64 in none.
func TestWrongOffsets(t *testing.T) {
	const length = 128
	m := newModel(length, []int{8, 16}, []int{32, 64})
	a := made(t, m)
	do(t, a, m, op{"push", 8, 32, true})
	for _, head := range outside(length, 8) {
		wrongHead(t, a, head)
		for _, node := range append(outside(length, 16), 32, 64) {
			wrongPair(t, a, head, node)
		}
	}
	for _, node := range outside(length, 16) {
		wrongNode(t, a, node)
		wrongPair(t, a, 8, node)
		wrongPair(t, a, 16, node)
	}
	same(t, a, m)
}

// An arena that is too small for a head, or for a node, has none.
func TestSmallArenas(t *testing.T) {
	var small []*arena.Arena
	for length := range 18 {
		a, err := arena.New(length)
		if err != api.OK {
			t.Fatal(err)
		}
		small = append(small, a)
	}
	for _, a := range append(small, nil, new(arena.Arena)) {
		for at := -20; at <= 20; at++ {
			if at < 1 || at+8 > a.Len() {
				wrongHead(t, a, at)
				wrongPair(t, a, at, 1)
			}
			if at < 1 || at+16 > a.Len() {
				wrongNode(t, a, at)
				wrongPair(t, a, 1, at)
			}
		}
	}
}

// The smallest arenas that have a head, a node, or both.
func TestSmallestArenas(t *testing.T) {
	a, _ := arena.New(9)
	if n, err := chain.Pop(a, 1, true); n != 0 || err != api.ErrNone {
		t.Error(n, err)
	}
	if l, err := chain.All(a, 1); len(l) != 0 || err != api.OK {
		t.Error(l, err)
	}
	a, _ = arena.New(17)
	if n, err := chain.Owner(a, 1); n != 0 || err != api.OK {
		t.Error(n, err)
	}
	checkEverywhere(t, 25, []int{1}, []int{9})
	checkEverywhere(t, 25, []int{17}, []int{1})
}

// follow lays nodes of a list down that are linked by their first four bytes alone, which is closer than the package lets nodes be.
func follow(a *arena.Arena, head, first, count, behind int) {
	a.Store(head, 4, uint64(first))
	for i := range count {
		next := first + 4*(i+1)
		if i == count-1 {
			next = behind
		}
		a.Store(first+4*i, 4, uint64(next))
	}
}

// P10.3: 10000 nodes are told, more aren't.
func TestTooManyNodes(t *testing.T) {
	for _, count := range []int{1, 9999, 10000, 10001, 12000} {
		a, _ := arena.New(65536)
		follow(a, 8, 16, count, 0)
		l, err := chain.All(a, 8)
		if count <= 10000 && (len(l) != count || l[count-1] != 16+4*(count-1) || err != api.OK) {
			t.Errorf("%d nodes: %d, %v", count, len(l), err)
		}
		if count > 10000 && (len(l) != 0 || err != api.ErrForm) {
			t.Errorf("%d nodes: %d, %v", count, len(l), err)
		}
	}
}

// P10.3, P1: nodes that lead back to one before are more than 10000 too.
func TestNodesInACircle(t *testing.T) {
	for _, count := range []int{1, 2, 3, 100} {
		a, _ := arena.New(1024)
		follow(a, 8, 16, count, 16)
		if l, err := chain.All(a, 8); len(l) != 0 || err != api.ErrForm {
			t.Errorf("%d nodes: %v, %v", count, l, err)
		}
	}
}

// P1: whatever heads and nodes hold, and wherever they overlap, each call ends; what it answers is open, but for ErrRange.
func TestCallsEndOnOtherBytes(t *testing.T) {
	for _, number := range []uint64{1, 8, 16, 40, 48, 56, 60, 63, 64, 65, 1 << 16, 1<<31 - 1, 1 << 31, 1<<32 - 16, 1<<32 - 1} {
		for head := 1; head <= 64-8; head += 5 {
			for node := 1; node <= 64-16; node += 5 {
				callAll(t, number, head, node)
			}
		}
	}
}

// callAll does each call in an arena of one number over and over.
func callAll(t *testing.T, number uint64, head, node int) {
	t.Helper()
	fresh := func() *arena.Arena {
		a, _ := arena.New(64)
		for at := 0; at < 64; at += 4 {
			a.Store(at, 4, number)
		}
		return a
	}
	a := fresh()
	var errs []api.Errno
	tell := func(err api.Errno) { errs = append(errs, err) }
	_, err := chain.All(a, head)
	tell(err)
	_, err = chain.Owner(a, node)
	tell(err)
	for _, front := range []bool{true, false} {
		_, err = chain.End(a, head, front)
		tell(err)
		_, err = chain.Next(a, node, front)
		tell(err)
		_, err = chain.Pop(fresh(), head, front)
		tell(err)
		b := fresh()
		b.Fill(node, 16, 0)
		tell(chain.Push(b, head, node, front))
		_, err = chain.All(b, head)
		tell(err)
	}
	b := fresh()
	b.Store(node+8, 4, uint64(head))
	tell(chain.Remove(b, head, node))
	if slices.Contains(errs, api.ErrRange) {
		t.Errorf("number %d, head %d, node %d: %v", number, head, node, errs)
	}
}

// The chapter's examples.
func TestExamples(t *testing.T) {
	a, _ := arena.New(128)
	for _, node := range []int{32, 64} {
		if err := chain.Push(a, 8, node, true); err != api.OK {
			t.Error(err)
		}
	}
	if l, err := chain.All(a, 8); !slices.Equal(l, []int{64, 32}) || err != api.OK {
		t.Error(l, err)
	}
	for _, front := range []bool{true, false} {
		if err := chain.Push(a, 16, 32, front); err != api.ErrRef {
			t.Error(err)
		}
	}
	if err := chain.Remove(a, 8, 32); err != api.OK {
		t.Error(err)
	}
	if l, err := chain.All(a, 8); !slices.Equal(l, []int{64}) || err != api.OK {
		t.Error(l, err)
	}
	if node, err := chain.Pop(a, 8, false); node != 64 || err != api.OK {
		t.Error(node, err)
	}
}
