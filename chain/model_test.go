package chain_test

import (
	"bytes"
	"slices"
	"strconv"
	"testing"

	"turnbuckle/api"
	"turnbuckle/arena"
	"turnbuckle/chain"
)

// filler is what all bytes beside the heads and nodes are, so that a write to one of them is seen.
const filler = 0xa5

// model is an arena said plainly: the nodes of each head's list, from the first to the last.
type model struct {
	length       int
	heads, nodes []int
	lists        map[int][]int
}

func newModel(length int, heads, nodes []int) *model {
	return &model{length: length, heads: heads, nodes: nodes, lists: map[int][]int{}}
}

// owner is the head whose list a node is in, or 0.
func (m *model) owner(node int) int {
	for head, l := range m.lists {
		if slices.Contains(l, node) {
			return head
		}
	}
	return 0
}

// next is the node behind or before one, or 0.
func (m *model) next(node int, front bool) int {
	l := m.lists[m.owner(node)]
	i := slices.Index(l, node)
	switch {
	case i < 0:
		return 0
	case front && i+1 < len(l):
		return l[i+1]
	case !front && i > 0:
		return l[i-1]
	}
	return 0
}

// end is the node at an end of a list, or 0.
func (m *model) end(head int, front bool) int {
	l := m.lists[head]
	switch {
	case len(l) == 0:
		return 0
	case front:
		return l[0]
	}
	return l[len(l)-1]
}

func (m *model) push(head, node int, front bool) api.Errno {
	if m.owner(node) != 0 {
		return api.ErrRef
	}
	if front {
		m.lists[head] = slices.Insert(m.lists[head], 0, node)
	} else {
		m.lists[head] = append(m.lists[head], node)
	}
	return api.OK
}

func (m *model) pop(head int, front bool) (int, api.Errno) {
	node := m.end(head, front)
	if node == 0 {
		return 0, api.ErrNone
	}
	m.remove(head, node)
	return node, api.OK
}

func (m *model) remove(head, node int) api.Errno {
	if m.owner(node) != head {
		return api.ErrRef
	}
	i := slices.Index(m.lists[head], node)
	m.lists[head] = slices.Delete(m.lists[head], i, i+1)
	return api.OK
}

// put lays numbers of four bytes down, as the chapter's Words tell of heads and nodes.
func put(b []byte, at int, numbers ...int) {
	for i, n := range numbers {
		for j := range 4 {
			b[at+4*i+j] = byte(n >> (8 * j))
		}
	}
}

// bytes is each byte that the arena has to have.
func (m *model) bytes() []byte {
	b := bytes.Repeat([]byte{filler}, m.length)
	for _, head := range m.heads {
		put(b, head, m.end(head, true), m.end(head, false))
	}
	for _, node := range m.nodes {
		put(b, node, m.next(node, true), m.next(node, false), m.owner(node), 0)
	}
	return b
}

// op is a call that may change a list.
type op struct {
	name       string
	head, node int
	front      bool
}

func (o op) String() string {
	return o.name + " head " + strconv.Itoa(o.head) + " node " + strconv.Itoa(o.node) + " front " + strconv.FormatBool(o.front)
}

// ops are all that can be called with the model's heads and nodes.
func (m *model) ops() []op {
	var l []op
	for _, head := range m.heads {
		for _, front := range []bool{true, false} {
			l = append(l, op{"pop", head, 0, front})
			for _, node := range m.nodes {
				l = append(l, op{"push", head, node, front})
			}
		}
		for _, node := range m.nodes {
			l = append(l, op{"remove", head, node, false})
		}
	}
	return l
}

// made is an arena with heads and nodes that are all 0, and the filler beside them.
func made(t *testing.T, m *model) *arena.Arena {
	t.Helper()
	return laid(t, m.bytes())
}

// laid is an arena of these bytes.
func laid(t *testing.T, b []byte) *arena.Arena {
	t.Helper()
	a, err := arena.New(len(b))
	if err != api.OK {
		t.Fatal(err)
	}
	for at, v := range b {
		a.Store(at, 1, uint64(v))
	}
	return a
}

func contents(t *testing.T, a *arena.Arena) []byte {
	t.Helper()
	b, err := a.Bytes(0, a.Len())
	if err != api.OK {
		t.Fatal(err)
	}
	return b
}

// do calls both the package and the model.
func do(t *testing.T, a *arena.Arena, m *model, o op) {
	t.Helper()
	var node, wantNode int
	var err, want api.Errno
	switch o.name {
	case "push":
		err, want = chain.Push(a, o.head, o.node, o.front), m.push(o.head, o.node, o.front)
	case "pop":
		node, err = chain.Pop(a, o.head, o.front)
		wantNode, want = m.pop(o.head, o.front)
	case "remove":
		err, want = chain.Remove(a, o.head, o.node), m.remove(o.head, o.node)
	}
	if node != wantNode || err != want {
		t.Fatalf("%v: %d, %v, want %d, %v", o, node, err, wantNode, want)
	}
}

// same holds all that can be asked of the lists, and each byte, against the model. It asks nodes that are in no list too.
func same(t *testing.T, a *arena.Arena, m *model) {
	t.Helper()
	for _, head := range m.heads {
		if l, err := chain.All(a, head); !slices.Equal(l, m.lists[head]) || err != api.OK {
			t.Fatalf("All(%d): %v, %v, want %v", head, l, err, m.lists[head])
		}
		for _, front := range []bool{true, false} {
			if n, err := chain.End(a, head, front); n != m.end(head, front) || err != api.OK {
				t.Fatalf("End(%d, %v): %d, %v, want %d", head, front, n, err, m.end(head, front))
			}
		}
	}
	for _, node := range m.nodes {
		if head, err := chain.Owner(a, node); head != m.owner(node) || err != api.OK {
			t.Fatalf("Owner(%d): %d, %v, want %d", node, head, err, m.owner(node))
		}
		for _, front := range []bool{true, false} {
			if n, err := chain.Next(a, node, front); n != m.next(node, front) || err != api.OK {
				t.Fatalf("Next(%d, %v): %d, %v, want %d", node, front, n, err, m.next(node, front))
			}
		}
	}
	if got, want := contents(t, a), m.bytes(); !bytes.Equal(got, want) {
		t.Fatalf("bytes %v, want %v", got, want)
	}
}
