package tree_test

import (
	"bytes"
	"math"
	"math/bits"
	"slices"
	"strconv"
	"testing"

	"turnbuckle/api"
	"turnbuckle/arena"
	"turnbuckle/tree"
)

// spaced are n offsets, from one on, that lie so far from each other.
func spaced(n, from, step int) []int {
	var l []int
	for i := range n {
		l = append(l, from+i*step)
	}
	return l
}

// checkEverywhere does each call in each arrangement that the leaves can get into. Each is reached by calls from roots and leaves that are 0, and its bytes have been held against the model's.
func checkEverywhere(t *testing.T, start *model) {
	t.Helper()
	known := map[string]bool{start.name(): true}
	for open := []*model{start}; len(open) > 0; open = open[1:] {
		now := open[0].bytes()
		for _, o := range start.ops() {
			a, m := laid(t, now), open[0].clone()
			do(t, a, m, o)
			same(t, a, m)
			balanced(t, a, m)
			if !known[m.name()] {
				known[m.name()] = true
				open = append(open, m)
			}
		}
	}
	if len(known) < 1<<len(start.leaves) {
		t.Errorf("only %d arrangements", len(known))
	}
}

// balanced holds the trees against P11.5, for keys that didn't change.
func balanced(t *testing.T, a *arena.Arena, m *model) {
	t.Helper()
	for _, root := range m.roots {
		top, _ := tree.Root(a, root)
		if red, _ := tree.Red(a, top); red {
			t.Fatalf("the topmost leaf %d is red", top)
		}
		blackLeaves(t, a, top)
		l, _ := tree.All(a, root)
		if !slices.IsSortedFunc(l, m.compare) {
			t.Fatalf("the keys of %v fall", l)
		}
	}
}

// blackLeaves is how many black leaves are on each path from a leaf down.
func blackLeaves(t *testing.T, a *arena.Arena, leaf int) int {
	t.Helper()
	if leaf == 0 {
		return 0
	}
	left, _ := tree.Child(a, leaf, false)
	right, _ := tree.Child(a, leaf, true)
	n := blackLeaves(t, a, left)
	if other := blackLeaves(t, a, right); n != other {
		t.Fatalf("%d and %d black leaves below %d", n, other, leaf)
	}
	if red, _ := tree.Red(a, leaf); !red {
		return n + 1
	}
	for _, child := range []int{left, right} {
		if red, _ := tree.Red(a, child); red {
			t.Fatalf("%d and its child %d are red", leaf, child)
		}
	}
	return n
}

// P11.1 to P11.5, P2: every call in every arrangement of leaves whose keys differ.
func TestEveryCallInEveryArrangement(t *testing.T) {
	checkEverywhere(t, newModel(320, -8, []int{8}, spaced(9, 32, 32), 40, 10, 90, 30, 70, 50, 20, 80, 60))
}

// P11.1 to P11.5: every call in every arrangement of leaves of which some have one key, and in two trees.
func TestEveryCallWithEqualKeys(t *testing.T) {
	checkEverywhere(t, newModel(208, 24, []int{8}, spaced(6, 16, 32), 5, 5, 3, 3, 5, 8))
	checkEverywhere(t, newModel(176, -8, []int{8, 16}, spaced(4, 32, 32), 7, 7, 7, 9))
}

// P11.1 to P11.3: roots and leaves right behind each other, at offsets of no order, from the first to the last that may be; keys at the first and at the last bytes of the arena.
func TestEveryCallAtOddOffsets(t *testing.T) {
	checkEverywhere(t, newModel(145, 80, []int{25}, []int{33, 1, 57}, 2, 3, 1))
	checkEverywhere(t, newModel(89, 48, []int{1}, []int{9, 33}, 1, 2))
	checkEverywhere(t, newModel(152, -80, []int{9, 33}, []int{80, 104, 128}, 3, 1, 2))
	checkEverywhere(t, newModel(88, -40, []int{9}, []int{64, 40}, 2, 1))
}

// P11.1 to P11.3: offsets with bits in both of their bytes, in the largest arena.
func TestLargestArena(t *testing.T) {
	const length = 65536
	checkEverywhere(t, newModel(length, -8, []int{length - 32 - 8}, []int{0x0100, length - 24}, 2, 1))
	checkEverywhere(t, newModel(length, 24, []int{0x0300}, []int{0x0100, 0x1200, length - 32}, 1, 2, 3))
}

// digits writes a tree whose keys are digits, those of the leaves 32, 64 and so on.
func digits(t *testing.T, a *arena.Arena, leaf int) string {
	t.Helper()
	if leaf == 0 {
		return "-"
	}
	s := strconv.Itoa(leaf / 32)
	if red, _ := tree.Red(a, leaf); red {
		s += "r"
	}
	left, _ := tree.Child(a, leaf, false)
	right, _ := tree.Child(a, leaf, true)
	if left == 0 && right == 0 {
		return s
	}
	return "(" + digits(t, a, left) + " " + s + " " + digits(t, a, right) + ")"
}

// P11.1, P11.2, P11.5: trees as the chapter's steps give them, worked out by hand.
func TestShapes(t *testing.T) {
	for _, c := range []struct{ added, removed, want string }{
		{"", "", "-"},
		{"1", "", "1"},
		{"12", "", "(- 1 2r)"},
		{"21", "", "(1r 2 -)"},
		// The red parent has no red sibling: on one side twice, and on both.
		{"123", "", "(1r 2 3r)"},
		{"321", "", "(1r 2 3r)"},
		{"132", "", "(1r 2 3r)"},
		{"312", "", "(1r 2 3r)"},
		// It has one.
		{"1234", "", "(1 2 (- 3 4r))"},
		{"1243", "", "(1 2 (3r 4 -))"},
		{"4321", "", "((1r 2 -) 3 4)"},
		{"4312", "", "((- 1 2r) 3 4)"},
		{"12345", "", "(1 2 (3r 4 5r))"},
		{"123456", "", "(1 2 (3 4r (- 5 6r)))"},
		{"654321", "", "(((1r 2 -) 3r 4) 5 6)"},
		// Both, one after the other.
		{"12345678", "", "((1 2r 3) 4 (5 6r (- 7 8r)))"},
		{"87654321", "", "(((1r 2 -) 3r 4) 5 (6 7r 8))"},

		{"1", "1", "-"},
		{"12", "1", "2"},
		{"12", "2", "1"},
		{"21", "2", "1"},
		{"123", "1", "(- 2 3r)"},
		{"123", "3", "(1r 2 -)"},
		{"123", "2", "(1r 3 -)"},
		{"123", "231", "-"},
		// Step 2, up to the topmost leaf.
		{"1234", "41", "(- 2 3r)"},
		{"1234", "43", "(1r 2 -)"},
		{"1234", "42", "(1r 3 -)"},
		// Step 3, with one rotation and with two, on both sides.
		{"1234", "1", "(2 3 4)"},
		{"4321", "4", "(1 2 3)"},
		{"1243", "1", "(2 3 4)"},
		{"4312", "4", "(1 2 3)"},
		// Step 1, then 2, on both sides.
		{"123456", "61", "((- 2 3r) 4 5)"},
		{"654321", "16", "(2 3 (4r 5 -))"},
		// Step 1, then 3.
		{"123456", "1", "((- 2 3r) 4 (- 5 6r))"},
		// The leaf in whose place another one comes is black, is red, is the topmost one.
		{"12345678", "4", "((1 2r 3) 5 (6 7r 8))"},
		{"12345678", "2", "((1r 3 -) 4 (5 6r (- 7 8r)))"},
		{"12345678", "6", "((1 2r 3) 4 (5 7r 8))"},
		{"12345678", "7", "((1 2r 3) 4 (5 6r 8))"},
	} {
		a, _ := arena.New(512)
		for _, key := range c.added {
			n := int(key - '0')
			a.Store(32*n+24, 8, uint64(n))
			if err := tree.Add(a, 8, 32*n, 24); err != api.OK {
				t.Error(err)
			}
		}
		for _, key := range c.removed {
			if err := tree.Remove(a, 8, 32*int(key-'0')); err != api.OK {
				t.Error(err)
			}
		}
		top, err := tree.Root(a, 8)
		if s := digits(t, a, top); s != c.want || err != api.OK {
			t.Errorf("added %s, removed %s: %s, %v, want %s", c.added, c.removed, s, err, c.want)
		}
	}
}

// P11.1, P11.5: leaves of one key stay in the order in which they were added.
func TestOrderOfEqualKeys(t *testing.T) {
	const count, choices = 7, 3
	leaves := spaced(count, 16, 32)
	for pick := range int(math.Pow(choices, count)) {
		var keys []uint64
		for rest := pick; len(keys) < count; rest /= choices {
			keys = append(keys, uint64(rest%choices))
		}
		m := newModel(256, 24, []int{8}, leaves, keys...)
		a := laid(t, m.bytes())
		for _, leaf := range leaves {
			tree.Add(a, 8, leaf, 24)
		}
		want := slices.SortedStableFunc(slices.Values(leaves), m.compare)
		if l, err := tree.All(a, 8); !slices.Equal(l, want) || err != api.OK {
			t.Fatalf("keys %v: %v, %v, want %v", keys, l, err, want)
		}
	}
}

// P11.1: a key is a 64-bit number without a sign, and each of its bytes counts.
func TestKeys(t *testing.T) {
	keys := []uint64{0, 1, math.MaxInt64 - 1, math.MaxInt64, math.MaxInt64 + 1, math.MaxUint64 - 1, math.MaxUint64}
	for i := range 64 {
		keys = append(keys, 1<<i, 1<<i+1, 1<<i-1)
	}
	for _, x := range keys {
		for _, y := range keys {
			m := newModel(96, 24, []int{8}, []int{16, 48}, x, y)
			a := laid(t, m.bytes())
			tree.Add(a, 8, 16, 24)
			tree.Add(a, 8, 48, 24)
			if child, err := tree.Child(a, 16, y >= x); child != 48 || err != api.OK {
				t.Errorf("%d behind %d: %d, %v", y, x, child, err)
			}
		}
	}
}

// P11.1: keys wherever they may be in the arena, also where other things lie, which are then read as they are ahead of the call.
func TestKeysAnywhere(t *testing.T) {
	const length = 160
	leaves := []int{40, 72, 104}
	for delta := -40; delta <= length-8-104; delta++ {
		for order := range 6 {
			m := newModel(length, delta, []int{16}, leaves)
			for at, v := range m.memory {
				if v == filler {
					m.memory[at] = byte(at * 37)
				}
			}
			a := laid(t, m.bytes())
			picks := []int{order % 3, (order + 1 + order/3) % 3, (order + 2 - order/3) % 3}
			for _, i := range picks {
				do(t, a, m, op{true, 16, leaves[i]})
				same(t, a, m)
			}
			for _, i := range picks {
				do(t, a, m, op{false, 16, leaves[i]})
				same(t, a, m)
			}
		}
	}
}

// P11.1: keys are read when a leaf is added; a change of one that isn't compared isn't seen, nor any by Remove.
func TestChangedKeys(t *testing.T) {
	m := newModel(320, -8, []int{8}, spaced(9, 32, 32), 10, 20, 30, 40, 50, 60, 70, 80, 90)
	a := laid(t, m.bytes())
	seed := uint64(3)
	for range 2000 {
		seed = seed*6364136223846793005 + 1442695040888963407
		leaf := m.leaves[seed>>33%9]
		m.memory[leaf-8] = byte(seed >> 45)
		a.Store(leaf-8, 1, seed>>45)
		leaf = m.leaves[seed>>53%9]
		do(t, a, m, op{m.owner(leaf) == 0, 8, leaf})
		same(t, a, m)
		blackLeaves(t, a, m.trees[8][""].leaf)
	}
}

// P11.1 to P11.5: many calls on trees that grow large, by a rule that picks them without order.
func TestManyCalls(t *testing.T) {
	var keys []uint64
	for i := range 45 {
		keys = append(keys, uint64(i*i%23))
	}
	m := newModel(1600, -8, []int{3, 40, 1590}, spaced(45, 60, 34), keys...)
	a := laid(t, m.bytes())
	ops := m.ops()
	seed := uint64(1)
	for range 2500 {
		seed = seed*6364136223846793005 + 1442695040888963407
		do(t, a, m, ops[seed>>33%uint64(len(ops))])
		same(t, a, m)
		balanced(t, a, m)
	}
}

// P11.1, P11.2, P11.4, P11.5: as many leaves with keys of their own as there is room for, then all of them out again.
func TestFullArena(t *testing.T) {
	const length, step = 65536, 32
	leaves := spaced(length/step-1, step, step)
	var keys []uint64
	for i := range leaves {
		keys = append(keys, bits.Reverse64(uint64(i*7))|uint64(i))
	}
	for _, rule := range []int{1, 2, 769, len(leaves) - 1} { // none has a divisor in common with the number of leaves
		m := newModel(length, 24, []int{8}, leaves, keys...)
		a := laid(t, m.bytes())
		var added []int
		for i := range leaves {
			leaf := leaves[i*rule%len(leaves)]
			if err := tree.Add(a, 8, leaf, 24); err != api.OK {
				t.Fatalf("Add(%d): %v", leaf, err)
			}
			added = append(added, leaf)
			if i%200 == 0 || i == len(leaves)-1 {
				checkOrder(t, a, m, added)
			}
		}
		for len(added) > 0 {
			i := (len(added)*5 + 3) % len(added)
			if err := tree.Remove(a, 8, added[i]); err != api.OK {
				t.Fatalf("Remove(%d): %v", added[i], err)
			}
			added = slices.Delete(added, i, i+1)
			if len(added)%200 == 0 {
				checkOrder(t, a, m, added)
			}
		}
		if !bytes.Equal(contents(t, a), m.memory) {
			t.Error("a byte isn't as it was when the tree is empty again")
		}
	}
}

// checkOrder holds a tree against the leaves that it has to have, whose keys differ.
func checkOrder(t *testing.T, a *arena.Arena, m *model, leaves []int) {
	t.Helper()
	want := slices.SortedFunc(slices.Values(leaves), m.compare)
	if l, err := tree.All(a, 8); !slices.Equal(l, want) || err != api.OK {
		t.Fatalf("All: %d leaves, %v, want %d", len(l), err, len(want))
	}
	balanced(t, a, m)
}

// R3: the list that is answered and the arena don't share memory, nor do two answers.
func TestAllIsTheCallers(t *testing.T) {
	m := newModel(128, 24, []int{8}, []int{16, 48, 80}, 3, 1, 2)
	a := laid(t, m.bytes())
	for _, leaf := range m.leaves {
		tree.Add(a, 8, leaf, 24)
	}
	one, _ := tree.All(a, 8)
	two, _ := tree.All(a, 8)
	clear(one)
	_ = append(one[:0], 9, 9, 9, 9)
	if !slices.Equal(two, []int{48, 80, 16}) {
		t.Errorf("a change of an answer reached another: %v", two)
	}
	if l, err := tree.All(a, 8); !slices.Equal(l, []int{48, 80, 16}) || err != api.OK {
		t.Errorf("a change of an answer reached the arena: %v, %v", l, err)
	}
}

// R4: trees in one arena aren't seen in another.
func TestArenasAreApart(t *testing.T) {
	a, _ := arena.New(128)
	b, _ := arena.New(128)
	tree.Add(a, 8, 32, 24)
	if l, err := tree.All(b, 8); len(l) != 0 || err != api.OK {
		t.Error(l, err)
	}
	if err := tree.Add(b, 16, 32, 24); err != api.OK {
		t.Error(err)
	}
	if owner, err := tree.Owner(a, 32); owner != 8 || err != api.OK {
		t.Error(owner, err)
	}
}

// wantRange holds an answer against ErrRange with nothing beside it.
func wantRange(t *testing.T, a *arena.Arena, name string, n int, l []int, err api.Errno) {
	t.Helper()
	if n != 0 || len(l) != 0 || err != api.ErrRange {
		t.Errorf("%s, length %d: %d, %v, %v", name, a.Len(), n, l, err)
	}
}

// wrongRoot asks the calls that take a root alone.
func wrongRoot(t *testing.T, a *arena.Arena, root int) {
	t.Helper()
	name := " of root " + strconv.Itoa(root)
	n, err := tree.Root(a, root)
	wantRange(t, a, "Root"+name, n, nil, err)
	n, err = tree.First(a, root)
	wantRange(t, a, "First"+name, n, nil, err)
	l, err := tree.All(a, root)
	wantRange(t, a, "All"+name, 0, l, err)
}

// wrongLeaf asks the calls that take a leaf alone.
func wrongLeaf(t *testing.T, a *arena.Arena, leaf int) {
	t.Helper()
	name := " of leaf " + strconv.Itoa(leaf)
	for _, right := range []bool{true, false} {
		n, err := tree.Child(a, leaf, right)
		wantRange(t, a, "Child"+name, n, nil, err)
	}
	n, err := tree.Owner(a, leaf)
	wantRange(t, a, "Owner"+name, n, nil, err)
	red, err := tree.Red(a, leaf)
	wantRange(t, a, "Red"+name, 0, nil, err)
	if red {
		t.Errorf("Red%s: true", name)
	}
}

// wrongPair asks the calls that take both. The key of the leaf is tried within the arena, where there is room for it, and outside.
func wrongPair(t *testing.T, a *arena.Arena, root, leaf int) {
	t.Helper()
	name := " of root " + strconv.Itoa(root) + " and leaf " + strconv.Itoa(leaf)
	for _, delta := range []int{0, -leaf, 1 - leaf, a.Len() - 8 - leaf, -8, 24, math.MinInt, math.MaxInt} {
		wantRange(t, a, "Add"+name, 0, nil, tree.Add(a, root, leaf, delta))
	}
	wantRange(t, a, "Remove"+name, 0, nil, tree.Remove(a, root, leaf))
}

// outside are offsets at which nothing of that size can be in an arena of that length.
func outside(length, size int) []int {
	l := []int{0, -1, -size, -length, math.MinInt, math.MinInt + 1, math.MinInt + size, math.MaxInt, math.MaxInt - 1, math.MaxInt - size, math.MaxInt - size + 1, 1 << 32, 1<<32 + 8, 1<<32 + 32}
	for at := length + 1; at > length-size; at-- {
		l = append(l, at)
	}
	return l
}

// wrongModel has leaves of which that at 32 is in the tree at 8, below that at 96, and that at 64 in none.
func wrongModel(t *testing.T) (*arena.Arena, *model) {
	t.Helper()
	m := newModel(144, -8, []int{8, 16}, []int{32, 64, 96}, 1, 2, 3)
	a := laid(t, m.bytes())
	do(t, a, m, op{true, 8, 96})
	do(t, a, m, op{true, 8, 32})
	return a, m
}

// ErrRange comes ahead of ErrRef, and nothing is changed.
func TestWrongOffsets(t *testing.T) {
	a, m := wrongModel(t)
	for _, root := range outside(a.Len(), 8) {
		wrongRoot(t, a, root)
		for _, leaf := range append(outside(a.Len(), 24), m.leaves...) {
			wrongPair(t, a, root, leaf)
		}
	}
	for _, leaf := range outside(a.Len(), 24) {
		wrongLeaf(t, a, leaf)
		wrongPair(t, a, 8, leaf)
		wrongPair(t, a, 16, leaf)
	}
	same(t, a, m)
}

// P11.1: a key that isn't within the arena, which comes ahead of ErrRef; nothing is changed.
func TestWrongKeys(t *testing.T) {
	a, m := wrongModel(t)
	for _, leaf := range m.leaves {
		deltas := []int{math.MinInt, math.MinInt + 1, math.MinInt + 8, math.MaxInt, math.MaxInt - 1, math.MaxInt - leaf, math.MaxInt - leaf + 1, math.MaxInt - leaf - 7, math.MaxInt - leaf - 8, -1 << 32, 1 << 32}
		for i := range 20 {
			deltas = append(deltas, -leaf-1-i, a.Len()-leaf-7+i)
		}
		for _, delta := range deltas {
			for _, root := range m.roots {
				if err := tree.Add(a, root, leaf, delta); err != api.ErrRange {
					t.Errorf("Add(%d, %d, %d): %v", root, leaf, delta, err)
				}
			}
		}
	}
	same(t, a, m)
}

// P11.1: the first and the last key that may be.
func TestKeysAtTheEnds(t *testing.T) {
	for _, leaf := range []int{16, 40, 120} {
		for _, delta := range []int{-leaf, 144 - 8 - leaf} {
			a, _ := arena.New(144)
			if err := tree.Add(a, 8, leaf, delta); err != api.OK {
				t.Errorf("Add of %d with %d: %v", leaf, delta, err)
			}
		}
	}
}

// P11.1, P11.2: a leaf is in one tree at most, and only that tree's root takes it out; nothing is changed.
func TestWrongTrees(t *testing.T) {
	a, m := wrongModel(t)
	for _, leaf := range []int{32, 96} {
		for _, root := range m.roots {
			for delta := -leaf; delta <= a.Len()-8-leaf; delta++ {
				if err := tree.Add(a, root, leaf, delta); err != api.ErrRef {
					t.Errorf("Add(%d, %d, %d): %v", root, leaf, delta, err)
				}
			}
		}
		if err := tree.Remove(a, 16, leaf); err != api.ErrRef {
			t.Errorf("Remove(16, %d): %v", leaf, err)
		}
	}
	for _, root := range m.roots {
		if err := tree.Remove(a, root, 64); err != api.ErrRef {
			t.Errorf("Remove(%d, 64): %v", root, err)
		}
	}
	same(t, a, m)
}

// An arena that is too small for a root, or for a leaf, has none.
func TestSmallArenas(t *testing.T) {
	small := []*arena.Arena{nil, new(arena.Arena)}
	for length := range 26 {
		a, err := arena.New(length)
		if err != api.OK {
			t.Fatal(err)
		}
		small = append(small, a)
	}
	for _, a := range small {
		for at := -28; at <= 28; at++ {
			if at < 1 || at+8 > a.Len() {
				wrongRoot(t, a, at)
				wrongPair(t, a, at, 1)
			}
			if at < 1 || at+24 > a.Len() {
				wrongLeaf(t, a, at)
				wrongPair(t, a, 1, at)
			}
		}
	}
}

// The smallest arenas that have a root, a leaf, or both.
func TestSmallestArenas(t *testing.T) {
	a, _ := arena.New(9)
	if n, err := tree.First(a, 1); n != 0 || err != api.OK {
		t.Error(n, err)
	}
	if l, err := tree.All(a, 1); len(l) != 0 || err != api.OK {
		t.Error(l, err)
	}
	a, _ = arena.New(25)
	if n, err := tree.Owner(a, 1); n != 0 || err != api.OK {
		t.Error(n, err)
	}
	// The key may lie where the unused bytes are.
	checkEverywhere(t, newModel(33, 16, []int{1}, []int{9}))
	checkEverywhere(t, newModel(33, -1, []int{25}, []int{1}))
}

// lay lays a leaf's children down, as the package itself might not.
func lay(a *arena.Arena, leaf, left, right int) {
	a.Store(leaf, 4, uint64(left))
	a.Store(leaf+4, 4, uint64(right))
}

// P11.4: 60 levels are told, more aren't, on whichever sides the leaves lie.
func TestTooManyLevels(t *testing.T) {
	for _, levels := range []int{1, 2, 59, 60, 61, 62, 100} {
		for _, every := range []int{1, 2, 3, 1000} { // each of so many leaves lies on the left
			a, _ := arena.New(4096)
			a.Store(8, 4, 32)
			var before, behind []int
			for i := range levels {
				leaf, next := 32+24*i, 32+24*(i+1)
				if i == levels-1 {
					next = 0
				}
				if i%every == 0 {
					lay(a, leaf, next, 0)
					behind = append(behind, leaf)
				} else {
					lay(a, leaf, 0, next)
					before = append(before, leaf)
				}
			}
			slices.Reverse(behind)
			want, wantErr := slices.Concat(before, behind), api.OK
			if levels > 60 {
				want, wantErr = nil, api.ErrForm
			}
			if l, err := tree.All(a, 8); !slices.Equal(l, want) || err != wantErr {
				t.Errorf("%d levels, each %d. on the left: %v, %v", levels, every, l, err)
			}
		}
	}
}

// shared lays a tree of so many leaves down, in which a leaf is the child of several, and answers its topmost leaf. It has few levels, and takes little room.
func shared(a *arena.Arena, count int, at map[int]int) int {
	if count == 0 {
		return 0
	}
	if leaf, ok := at[count]; ok {
		return leaf
	}
	left, right := shared(a, count/2, at), shared(a, count-1-count/2, at)
	at[count] = 32 + 24*len(at)
	lay(a, at[count], left, right)
	return at[count]
}

// P11.4: 10000 leaves are told, more aren't.
func TestTooManyLeaves(t *testing.T) {
	for _, count := range []int{0, 1, 2, 9999, 10000, 10001, 10002, 40000, 1 << 40} {
		a, _ := arena.New(4096)
		a.Store(8, 4, uint64(shared(a, count, map[int]int{})))
		l, err := tree.All(a, 8)
		if count <= 10000 && (len(l) != count || err != api.OK) {
			t.Errorf("%d leaves: %d, %v", count, len(l), err)
		}
		if count > 10000 && (len(l) != 0 || err != api.ErrForm) {
			t.Errorf("%d leaves: %d, %v", count, len(l), err)
		}
	}
}

// P11.4, P1: leaves that lead back to one before lie on more than 60 levels.
func TestLeavesInACircle(t *testing.T) {
	for _, count := range []int{1, 2, 3, 100} {
		for _, right := range []bool{false, true} {
			a, _ := arena.New(4096)
			a.Store(8, 4, 32)
			for i := range count {
				next := 32 + 24*((i+1)%count)
				if right {
					lay(a, 32+24*i, 0, next)
				} else {
					lay(a, 32+24*i, next, 0)
				}
			}
			if l, err := tree.All(a, 8); len(l) != 0 || err != api.ErrForm {
				t.Errorf("%d leaves, right %v: %v, %v", count, right, l, err)
			}
			if _, err := tree.First(a, 8); err == api.ErrRange {
				t.Errorf("%d leaves, right %v: First: %v", count, right, err)
			}
		}
	}
}

// P1: whatever roots and leaves hold, and wherever they overlap, each call ends; what it answers is open, but for ErrRange.
func TestCallsEndOnOtherBytes(t *testing.T) {
	for _, number := range []uint64{1, 8, 16, 40, 48, 56, 60, 63, 64, 65, 1 << 16, 1<<31 - 1, 1 << 31, 1<<32 - 16, 1<<32 - 1} {
		numbers := slices.Repeat([]uint64{number}, 16)
		for root := 1; root <= 64-8; root += 5 {
			for leaf := 1; leaf <= 64-24; leaf += 5 {
				callAll(t, numbers, root, leaf)
			}
		}
	}
	seed := uint64(5)
	for range 20000 {
		numbers := make([]uint64, 64)
		for i := range numbers {
			seed = seed*6364136223846793005 + 1442695040888963407
			numbers[i] = seed >> 33 % 11 * 24
			if i%6 == 4 || numbers[i] == 240 { // most leaves are at multiples of 24, with a color in its place
				numbers[i] = seed >> 60 % 2
			}
		}
		callAll(t, numbers, 24*9, 24*int(1+seed>>50%8))
	}
}

// callAll does each call in an arena of these numbers of four bytes. Those that need a leaf to be in a tree, or in none, find it so.
func callAll(t *testing.T, numbers []uint64, root, leaf int) {
	t.Helper()
	fresh := func() *arena.Arena {
		a, _ := arena.New(4 * len(numbers))
		for i, n := range numbers {
			a.Store(4*i, 4, n)
		}
		return a
	}
	a := fresh()
	var errs []api.Errno
	tell := func(err api.Errno) { errs = append(errs, err) }
	_, err := tree.All(a, root)
	tell(err)
	_, err = tree.First(a, root)
	tell(err)
	_, err = tree.Root(a, root)
	tell(err)
	_, err = tree.Owner(a, leaf)
	tell(err)
	_, err = tree.Red(a, leaf)
	tell(err)
	_, err = tree.Child(a, leaf, true)
	tell(err)
	for _, delta := range []int{0, 16} {
		a = fresh()
		a.Fill(leaf, 24, 0)
		tell(tree.Add(a, root, leaf, delta))
		_, err = tree.All(a, root)
		tell(err)
	}
	a = fresh()
	a.Store(leaf+12, 4, uint64(root))
	tell(tree.Remove(a, root, leaf))
	_, err = tree.All(a, root)
	tell(err)
	if slices.Contains(errs, api.ErrRange) {
		t.Errorf("numbers %v, root %d, leaf %d: %v", numbers, root, leaf, errs)
	}
}

// The chapter's example.
func TestExample(t *testing.T) {
	a, _ := arena.New(128)
	for i, leaf := range []int{32, 64, 96} {
		a.Store(leaf-8, 8, uint64(i+1))
		if err := tree.Add(a, 8, leaf, -8); err != api.OK {
			t.Error(err)
		}
	}
	if top, err := tree.Root(a, 8); top != 64 || err != api.OK || digits(t, a, top) != "(1r 2 3r)" {
		t.Error(top, err, digits(t, a, top))
	}
	if err := tree.Remove(a, 8, 64); err != api.OK {
		t.Error(err)
	}
	if top, err := tree.Root(a, 8); top != 96 || err != api.OK || digits(t, a, top) != "(1r 3 -)" {
		t.Error(top, err, digits(t, a, top))
	}
}
