package tree_test

import (
	"bytes"
	"cmp"
	"encoding/binary"
	"maps"
	"slices"
	"strconv"
	"strings"
	"testing"

	"turnbuckle/api"
	"turnbuckle/arena"
	"turnbuckle/tree"
)

// filler is what all bytes beside the roots, leaves and keys are, so that a write to one of them is seen.
const filler = 0xa5

// spot is what is at a place of a tree.
type spot struct {
	leaf int
	red  bool
}

// plain is a tree said plainly, without links: each leaf at the path that leads to it from the topmost one, which is at "", its children at "L" and "R".
type plain map[string]spot

func other(side string) string {
	if side == "L" {
		return "R"
	}
	return "L"
}

// cut takes the last side off a path.
func cut(path string) (up, side string) {
	n := len(path) - 1
	return path[:n], path[n:]
}

func (p plain) has(path string) bool {
	_, ok := p[path]
	return ok
}

// paint does nothing where there is no leaf.
func (p plain) paint(path string, red bool) {
	if s, ok := p[path]; ok {
		p[path] = spot{s.leaf, red}
	}
}

// move gives each leaf the path that its own one becomes.
func (p plain) move(becomes func(path string) string) {
	old := maps.Clone(p)
	clear(p)
	for path, s := range old {
		p[becomes(path)] = s
	}
}

// rotate is the chapter's: what each path becomes if the leaf at a path is rotated to a side.
func (p plain) rotate(at, side string) {
	o := other(side)
	p.move(func(path string) string {
		rest, below := strings.CutPrefix(path, at)
		switch {
		case !below:
			return path
		case rest == o:
			return at
		case strings.HasPrefix(rest, o+o):
			return at + rest[1:]
		case strings.HasPrefix(rest, o+side):
			return at + side + o + rest[2:]
		}
		return at + side + rest
	})
}

// lift lets all that is below a path's child on a side stand at the path itself, where there is no leaf any more.
func (p plain) lift(at, side string) {
	p.move(func(path string) string {
		if rest, below := strings.CutPrefix(path, at+side); below {
			return at + rest
		}
		return path
	})
}

func (p plain) add(leaf int, goesLeft func(current int) bool) {
	x := ""
	for p.has(x) {
		if goesLeft(p[x].leaf) {
			x += "L"
		} else {
			x += "R"
		}
	}
	p[x] = spot{leaf, true}
	for len(x) > 1 {
		up, side := cut(x)
		if !p[up].red {
			break
		}
		g, s := cut(up)
		if u := g + other(s); p[u].red {
			p.paint(up, false)
			p.paint(u, false)
			p.paint(g, true)
			x = g
			continue
		}
		if side != s {
			p.rotate(up, s)
		}
		p.paint(up, false)
		p.paint(g, true)
		p.rotate(g, other(s))
		break // x's parent is black now
	}
	p.paint("", false)
}

func (p plain) remove(leaf int) {
	z := p.path(leaf)
	x, red := z, p[z].red
	if p.has(z+"L") && p.has(z+"R") {
		y := z + "R"
		for p.has(y + "L") {
			y += "L"
		}
		x, red = y, p[y].red
		p[z] = spot{p[y].leaf, p[z].red}
		delete(p, y)
		p.lift(y, "R")
	} else {
		delete(p, z)
		side := "R"
		if p.has(z + "L") {
			side = "L"
		}
		p.lift(z, side)
	}
	if !red {
		p.settle(x)
	}
}

// settle rebalances a tree in which a black leaf is missing on the ways through a path.
func (p plain) settle(x string) {
	for x != "" && !p[x].red {
		up, s := cut(x)
		o := other(s)
		if p[up+o].red {
			p.paint(up+o, false)
			p.paint(up, true)
			p.rotate(up, s)
			up += s
			x = up + s
		}
		w := up + o
		if !p[w+"L"].red && !p[w+"R"].red {
			p.paint(w, true)
			x = up
			continue
		}
		if !p[w+o].red {
			p.paint(w+s, false)
			p.paint(w, true)
			p.rotate(w, o)
		}
		p.paint(w, p[up].red)
		p.paint(up, false)
		p.paint(w+o, false)
		p.rotate(up, s)
		x = ""
	}
	p.paint(x, false)
}

// path is where a leaf is. It has to be in the tree.
func (p plain) path(leaf int) string {
	for path, s := range p {
		if s.leaf == leaf {
			return path
		}
	}
	panic("no leaf " + strconv.Itoa(leaf))
}

// inOrder tells the leaves from the left to the right.
func (p plain) inOrder(at string) []int {
	if !p.has(at) {
		return nil
	}
	return slices.Concat(p.inOrder(at+"L"), []int{p[at].leaf}, p.inOrder(at+"R"))
}

// text is the keys in brackets as they lie in the tree, r behind a red one.
func (p plain) text(at string, name func(leaf int) string) string {
	if !p.has(at) {
		return "-"
	}
	s := name(p[at].leaf)
	if p[at].red {
		s += "r"
	}
	if !p.has(at+"L") && !p.has(at+"R") {
		return s
	}
	return "(" + p.text(at+"L", name) + " " + s + " " + p.text(at+"R", name) + ")"
}

// model is an arena said plainly: the tree of each root. The keys lie where memory has them: it is all bytes as they are while no leaf is in a tree.
type model struct {
	memory        []byte
	delta         int
	roots, leaves []int
	trees         map[int]plain
}

// newModel lays roots, leaves and the leaves' keys down. A key that would be outside isn't laid down.
func newModel(length, delta int, roots, leaves []int, keys ...uint64) *model {
	m := &model{memory: bytes.Repeat([]byte{filler}, length), delta: delta, roots: roots, leaves: leaves, trees: map[int]plain{}}
	for _, root := range roots {
		m.trees[root] = plain{}
		clear(m.memory[root : root+8])
	}
	for _, leaf := range leaves {
		clear(m.memory[leaf : leaf+24])
	}
	for i, key := range keys {
		binary.LittleEndian.PutUint64(m.memory[leaves[i]+delta:], key)
	}
	return m
}

func (m *model) clone() *model {
	c := *m
	c.trees = map[int]plain{}
	for root, p := range m.trees {
		c.trees[root] = maps.Clone(p)
	}
	return &c
}

// owner is the root whose tree a leaf is in, or 0.
func (m *model) owner(leaf int) int {
	for root, p := range m.trees {
		for _, s := range p {
			if s.leaf == leaf {
				return root
			}
		}
	}
	return 0
}

// spotOf is the tree and the path at which a leaf is; ok: it is in one.
func (m *model) spotOf(leaf int) (p plain, path string, ok bool) {
	root := m.owner(leaf)
	if root == 0 {
		return nil, "", false
	}
	return m.trees[root], m.trees[root].path(leaf), true
}

func (m *model) child(leaf int, right bool) int {
	p, path, ok := m.spotOf(leaf)
	if !ok {
		return 0
	}
	if right {
		return p[path+"R"].leaf
	}
	return p[path+"L"].leaf
}

func (m *model) parent(leaf int) int {
	p, path, ok := m.spotOf(leaf)
	if !ok || path == "" {
		return 0
	}
	up, _ := cut(path)
	return p[up].leaf
}

func (m *model) red(leaf int) bool {
	p, path, ok := m.spotOf(leaf)
	return ok && p[path].red
}

// key is read from the bytes as they are, so that keys may lie anywhere.
func (m *model) key(b []byte, leaf int) uint64 {
	return binary.LittleEndian.Uint64(b[leaf+m.delta:])
}

// compare holds the keys against each other that lie where memory has them.
func (m *model) compare(x, y int) int {
	return cmp.Compare(m.key(m.memory, x), m.key(m.memory, y))
}

func (m *model) add(root, leaf int) api.Errno {
	if m.owner(leaf) != 0 {
		return api.ErrRef
	}
	b := m.bytes()
	m.trees[root].add(leaf, func(current int) bool { return m.key(b, leaf) < m.key(b, current) })
	return api.OK
}

func (m *model) remove(root, leaf int) api.Errno {
	if m.owner(leaf) != root {
		return api.ErrRef
	}
	m.trees[root].remove(leaf)
	return api.OK
}

// put lays numbers of four bytes down, as the chapter's Words tell of roots and leaves.
func put(b []byte, at int, numbers ...int) {
	for i, n := range numbers {
		binary.LittleEndian.PutUint32(b[at+4*i:], uint32(n))
	}
}

// bytes is each byte that the arena has to have.
func (m *model) bytes() []byte {
	b := slices.Clone(m.memory)
	for _, root := range m.roots {
		put(b, root, m.trees[root][""].leaf)
	}
	for _, leaf := range m.leaves {
		if m.owner(leaf) == 0 {
			continue
		}
		color := 0
		if m.red(leaf) {
			color = 1
		}
		put(b, leaf, m.child(leaf, false), m.child(leaf, true), m.parent(leaf), m.owner(leaf), color, 0)
	}
	return b
}

// name tells two arrangements of leaves apart.
func (m *model) name() string {
	s := ""
	for _, root := range m.roots {
		s += m.trees[root].text("", strconv.Itoa) + "/"
	}
	return s
}

// op is a call that may change a tree.
type op struct {
	add        bool
	root, leaf int
}

func (o op) String() string {
	name := "remove"
	if o.add {
		name = "add"
	}
	return name + " root " + strconv.Itoa(o.root) + " leaf " + strconv.Itoa(o.leaf)
}

// ops are all that can be called with the model's roots and leaves.
func (m *model) ops() []op {
	var l []op
	for _, root := range m.roots {
		for _, leaf := range m.leaves {
			l = append(l, op{true, root, leaf}, op{false, root, leaf})
		}
	}
	return l
}

// laid is an arena of these bytes.
func laid(t *testing.T, b []byte) *arena.Arena {
	t.Helper()
	a, err := arena.New(len(b))
	if err != api.OK {
		t.Fatal(err)
	}
	for at, v := range b {
		a.Store(at, 1, uint64(v))
	}
	return a
}

func contents(t *testing.T, a *arena.Arena) []byte {
	t.Helper()
	b, err := a.Bytes(0, a.Len())
	if err != api.OK {
		t.Fatal(err)
	}
	return b
}

// do calls both the package and the model.
func do(t *testing.T, a *arena.Arena, m *model, o op) {
	t.Helper()
	var err, want api.Errno
	if o.add {
		err, want = tree.Add(a, o.root, o.leaf, m.delta), m.add(o.root, o.leaf)
	} else {
		err, want = tree.Remove(a, o.root, o.leaf), m.remove(o.root, o.leaf)
	}
	if err != want {
		t.Fatalf("%v: %v, want %v", o, err, want)
	}
}

// same holds all that can be asked of the trees, and each byte, against the model. It asks leaves that are in no tree too.
func same(t *testing.T, a *arena.Arena, m *model) {
	t.Helper()
	if got, want := contents(t, a), m.bytes(); !bytes.Equal(got, want) {
		t.Fatalf("%s: bytes %v, want %v", m.name(), got, want)
	}
	for _, root := range m.roots {
		want := m.trees[root].inOrder("")
		if l, err := tree.All(a, root); !slices.Equal(l, want) || err != api.OK {
			t.Fatalf("%s: All(%d): %v, %v, want %v", m.name(), root, l, err, want)
		}
		first := 0
		if len(want) > 0 {
			first = want[0]
		}
		if n, err := tree.First(a, root); n != first || err != api.OK {
			t.Fatalf("%s: First(%d): %d, %v, want %d", m.name(), root, n, err, first)
		}
		if n, err := tree.Root(a, root); n != m.trees[root][""].leaf || err != api.OK {
			t.Fatalf("%s: Root(%d): %d, %v, want %d", m.name(), root, n, err, m.trees[root][""].leaf)
		}
	}
	for _, leaf := range m.leaves {
		if n, err := tree.Owner(a, leaf); n != m.owner(leaf) || err != api.OK {
			t.Fatalf("%s: Owner(%d): %d, %v, want %d", m.name(), leaf, n, err, m.owner(leaf))
		}
		if red, err := tree.Red(a, leaf); red != m.red(leaf) || err != api.OK {
			t.Fatalf("%s: Red(%d): %v, %v, want %v", m.name(), leaf, red, err, m.red(leaf))
		}
		for _, right := range []bool{false, true} {
			if n, err := tree.Child(a, leaf, right); n != m.child(leaf, right) || err != api.OK {
				t.Fatalf("%s: Child(%d, %v): %d, %v, want %d", m.name(), leaf, right, n, err, m.child(leaf, right))
			}
		}
	}
}
