package types_test

import (
	"math"
	"slices"
	"strconv"
	"strings"
	"testing"

	"turnbuckle/api"
	"turnbuckle/types"
)

type (
	fields = []api.Field
	list   = []api.Type
)

func scalar(n int) api.Field        { return api.Field{Kind: api.FieldScalar, Len: n} }
func ptr(to int) api.Field          { return api.Field{Kind: api.FieldPtr, Type: to} }
func listOf(to, link int) api.Field { return api.Field{Kind: api.FieldList, Type: to, Link: link} }
func treeOf(to, link, key int) api.Field {
	return api.Field{Kind: api.FieldTree, Type: to, Link: link, Key: key}
}

func node() api.Field { return api.Field{Kind: api.FieldNode} }
func leaf() api.Field { return api.Field{Kind: api.FieldLeaf} }
func lock() api.Field { return api.Field{Kind: api.FieldLock} }

func plain(name string, f ...api.Field) api.Type { return api.Type{Name: name, Fields: f} }
func refs(name string, f ...api.Field) api.Type  { return api.Type{Name: name, Refs: true, Fields: f} }
func value(name string, f ...api.Field) api.Type { return api.Type{Name: name, Value: true, Fields: f} }

// base is a valid list that has each kind of type and of field. A field may be added to its type 3, which has a lock of its own.
func base() list {
	return list{
		plain("item", scalar(2), node(), leaf(), ptr(1)),
		refs("shared", scalar(1), node(), leaf()),
		value("other", scalar(1), ptr(0)),
		value("box", lock()),
	}
}

const (
	item, shared, other, box = 0, 1, 2, 3 // of base
)

// with is base with one more field in its type of that index.
func with(at int, f ...api.Field) list {
	l := base()
	l[at].Fields = append(l[at].Fields, f...)
	return l
}

// many is n types with names of their own.
func many(n int) list {
	l := make(list, n)
	for i := range l {
		l[i].Name = "t" + strconv.Itoa(i)
	}
	return l
}

func repeat(n int, f api.Field) fields {
	return slices.Repeat(fields{f}, n)
}

func cloneList(l list) list {
	c := slices.Clone(l)
	for i := range c {
		c[i].Fields = slices.Clone(c[i].Fields)
	}
	return c
}

func equalType(a, b api.Type) bool {
	return a.Name == b.Name && a.Value == b.Value && a.Refs == b.Refs && slices.Equal(a.Fields, b.Fields)
}

func equalList(a, b list) bool {
	return slices.EqualFunc(a, b, equalType)
}

func wantCheck(t *testing.T, l list, at int, err api.Errno) {
	t.Helper()
	given := cloneList(l)
	i, e := types.Check(given)
	if i != at || e != err {
		t.Errorf("Check(%v) = %d, %d; want %d, %d", l, i, e, at, err)
	}
	if !equalList(given, l) {
		t.Errorf("Check changed %v to %v", l, given)
	}
}

// wantModel also holds Bytes against Check: it has the same error, and no other.
func wantModel(t *testing.T, l list) {
	t.Helper()
	at, err := modelCheck(l)
	wantCheck(t, l, at, err)
	wantEncoded(t, l, err)
}

// outside is numbers that are no index, and that no encoding can bear but the one in the middle.
func outside() []int {
	return []int{-1, -2, math.MinInt, math.MinInt32, math.MaxInt32, math.MaxInt32 + 1, 1 << 32, 1<<32 + 1, math.MaxInt}
}

func TestExamples(t *testing.T) {
	wantLayout(t, plain("x", scalar(2), node(), leaf()), []int{8, 24, 40}, 64, api.OK)
	wantCheck(t, list{plain("a", node()), plain("b", lock(), listOf(0, 0))}, 1, api.ErrKind)
	wantCheck(t, list{plain("a", node()), plain("b", listOf(0, 0))}, 1, api.ErrKind)
	wantCheck(t, list{plain("a", node()), value("b", listOf(0, 0))}, 1, api.ErrLock)
	wantCheck(t, list{plain("a", node()), value("b", listOf(0, 0), lock())}, 0, api.OK)
}

// P5.1: ordinary lists.
func TestCheckOfValidLists(t *testing.T) {
	for _, l := range []list{
		nil,
		{},
		base(),
		{plain("a")},
		{refs("a")},
		{value("a")},
		{value("a", lock())}, // a lock that protects nothing
		{value("a", lock(), scalar(16))},
		{plain("a", ptr(0))},
		{plain("a", ptr(2)), plain("b", ptr(0)), plain("c", ptr(1), ptr(1))},
		{value("v", listOf(1, 1), lock()), refs("a", scalar(3), node())}, // ahead of its target
		{value("v", lock(), treeOf(1, 0, 1)), plain("a", leaf(), scalar(3))},
		{value("v", lock(), treeOf(1, 0, 2)), plain("a", leaf(), leaf(), scalar(1), node())},
		{value("v", listOf(1, 0), listOf(1, 0), lock(), listOf(1, 1)), plain("a", node(), node())},
		{plain("a", node(), node(), leaf(), leaf())},
		{value("v", ptr(1)), refs("a")},
	} {
		wantCheck(t, l, 0, api.OK)
		wantEncoded(t, l, api.OK)
	}
}

// P5.1: how many types there are. A list that has too many isn't looked at.
func TestCheckOfHowManyTypes(t *testing.T) {
	for n := range 33 {
		wantCheck(t, many(n), 0, api.OK)
		wantEncoded(t, many(n), api.OK)
	}
	for _, n := range []int{33, 34, 64, 256, 1000, 5000} {
		wantCheck(t, many(n), 0, api.ErrSize)
		wantEncoded(t, many(n), api.ErrSize)
		wantCheck(t, make(list, n), 0, api.ErrSize)
		l := many(n)
		l[1] = api.Type{Name: "t1", Value: true, Refs: true}
		l[2].Fields = fields{{Kind: 9}}
		wantCheck(t, l, 0, api.ErrSize)
	}
	l := many(32)
	l[31].Fields = fields{{}}
	wantCheck(t, l, 31, api.ErrKind)
	l[31].Fields = fields{ptr(31)}
	wantCheck(t, l, 0, api.OK)
	l[31].Fields = fields{ptr(32)}
	wantCheck(t, l, 31, api.ErrRange)
}

// P5.1: names.
func TestCheckOfNames(t *testing.T) {
	for _, name := range []string{"a", "Z", "0", "_", "a_B9", "abcdefghijklmnop", strings.Repeat("_", 16)} {
		wantCheck(t, list{plain(name)}, 0, api.OK)
	}
	for _, name := range []string{"", " ", "a b", "a-b", "a\x00", "é", "\xff", "a\n", "abcdefghijklmnopq", strings.Repeat("x", 300)} {
		for at := range 3 {
			l := many(3)
			l[at].Name = name
			wantCheck(t, l, at, api.ErrForm)
		}
	}
}

// P5.1: a name that an earlier type has.
func TestCheckOfNamesTwice(t *testing.T) {
	wantCheck(t, list{plain("a"), plain("a")}, 1, api.ErrForm)
	wantCheck(t, list{plain("a"), value("a")}, 1, api.ErrForm)
	wantCheck(t, list{plain("a"), plain("b"), plain("b"), plain("a")}, 2, api.ErrForm)
	wantCheck(t, list{plain("a"), plain("b"), refs("c"), plain("a")}, 3, api.ErrForm)
	wantCheck(t, list{plain("a"), plain("A"), plain("aa"), plain("_a")}, 0, api.OK)
	for first := range 32 {
		for second := first + 1; second < 32; second++ {
			l := many(32)
			l[second].Name = l[first].Name
			wantCheck(t, l, second, api.ErrForm)
		}
	}
}

// P5.1: how many fields a type has.
func TestCheckOfHowManyFields(t *testing.T) {
	for n := range 13 {
		wantCheck(t, list{plain("a", repeat(n, scalar(1))...)}, 0, api.OK)
		wantCheck(t, list{plain("b"), value("a", repeat(n, ptr(0))...)}, 0, api.OK)
	}
	for _, n := range []int{13, 14, 100, 1000, 5000} {
		wantCheck(t, list{plain("a", repeat(n, scalar(1))...)}, 0, api.ErrSize)
		wantCheck(t, list{plain("b"), value("a", repeat(n, ptr(0))...)}, 1, api.ErrSize)
	}
}

// P5.1: sizes of 256 and above, by each kind of field.
func TestCheckOfSizes(t *testing.T) {
	for _, c := range []struct {
		l   list
		err api.Errno
	}{
		{list{plain("a", scalar(16), scalar(15))}, api.OK},
		{list{plain("a", scalar(16), scalar(16))}, api.ErrSize},
		{list{plain("a", scalar(16), scalar(14), ptr(0))}, api.OK},
		{list{plain("a", scalar(16), scalar(15), ptr(0))}, api.ErrSize},
		{list{plain("a", scalar(16), scalar(13), node())}, api.OK},
		{list{plain("a", scalar(16), scalar(14), node())}, api.ErrSize},
		{list{plain("a", scalar(16), scalar(12), leaf())}, api.OK},
		{list{plain("a", scalar(16), scalar(13), leaf())}, api.ErrSize},
		{list{value("a", scalar(16), scalar(14), lock())}, api.OK},
		{list{value("a", scalar(16), scalar(15), lock())}, api.ErrSize},
		{list{value("a", scalar(16), scalar(13), lock(), listOf(1, 0)), plain("b", node())}, api.OK},
		{list{value("a", scalar(16), scalar(14), lock(), listOf(1, 0)), plain("b", node())}, api.ErrSize},
		{list{value("a", scalar(16), scalar(13), lock(), treeOf(1, 0, 1)), plain("b", leaf(), scalar(1))}, api.OK},
		{list{value("a", scalar(16), scalar(14), lock(), treeOf(1, 0, 1)), plain("b", leaf(), scalar(1))}, api.ErrSize},
		{list{plain("a", repeat(10, leaf())...)}, api.OK},      // 248
		{list{plain("a", repeat(11, leaf())...)}, api.ErrSize}, // 272
		{list{plain("a", repeat(12, node())...)}, api.OK},      // 200
		{list{plain("a", repeat(12, scalar(16))...)}, api.ErrSize},
	} {
		wantCheck(t, c.l, 0, c.err)
		if c.err != api.OK {
			wantCheck(t, behindAnother(c.l), 1, c.err)
		}
	}
}

// behindAnother is the list with one more type ahead of it.
func behindAnother(l list) list {
	l = append(list{plain("z")}, cloneList(l)...)
	for _, t := range l {
		for i := range t.Fields {
			if k := t.Fields[i].Kind; k == api.FieldPtr || k == api.FieldList || k == api.FieldTree {
				t.Fields[i].Type++
			}
		}
	}
	return l
}

// P5.1: Value and Refs.
func TestCheckOfFlags(t *testing.T) {
	wantCheck(t, list{{Name: "a", Value: true, Refs: true}}, 0, api.ErrKind)
	wantCheck(t, list{plain("b"), {Name: "a", Value: true, Refs: true, Fields: fields{lock()}}}, 1, api.ErrKind)
}

// P5.1: every row and every column of the chapter's table.
func TestCheckOfFields(t *testing.T) {
	type field = api.Field
	for _, c := range []struct {
		at  int
		f   api.Field
		err api.Errno
	}{
		// FieldScalar
		{item, scalar(1), api.OK},
		{shared, scalar(16), api.OK},
		{other, scalar(16), api.OK},
		{item, field{Kind: api.FieldScalar, Len: 1, Type: 1}, api.ErrKind},
		{item, field{Kind: api.FieldScalar, Len: 1, Link: 1}, api.ErrKind},
		{item, field{Kind: api.FieldScalar, Len: 1, Key: 1}, api.ErrKind},
		{item, field{Kind: api.FieldScalar, Len: 0, Key: 1}, api.ErrKind}, // ahead of ErrRange
		{item, scalar(0), api.ErrRange},
		{item, scalar(17), api.ErrRange},
		{item, scalar(-1), api.ErrRange},
		{other, scalar(17), api.ErrRange},
		// FieldPtr
		{item, ptr(item), api.OK},
		{shared, ptr(0), api.ErrKind}, // a way back to shared, in the last round
		{other, ptr(shared), api.OK},
		{item, field{Kind: api.FieldPtr, Len: 1}, api.ErrKind},
		{item, field{Kind: api.FieldPtr, Link: 1}, api.ErrKind},
		{item, field{Kind: api.FieldPtr, Key: 1}, api.ErrKind},
		{item, field{Kind: api.FieldPtr, Type: 4, Len: 1}, api.ErrKind}, // ahead of ErrRange
		{item, ptr(4), api.ErrRange},
		{item, ptr(-1), api.ErrRange},
		{item, ptr(other), api.ErrKind},
		{item, ptr(box), api.ErrKind},
		{box, ptr(box), api.ErrKind},
		// FieldNode
		{item, node(), api.OK},
		{shared, node(), api.OK},
		{other, node(), api.ErrKind},
		{item, field{Kind: api.FieldNode, Len: 1}, api.ErrKind},
		{item, field{Kind: api.FieldNode, Type: 1}, api.ErrKind},
		{item, field{Kind: api.FieldNode, Link: 1}, api.ErrKind},
		{item, field{Kind: api.FieldNode, Key: 1}, api.ErrKind},
		// FieldLeaf
		{item, leaf(), api.OK},
		{shared, leaf(), api.OK},
		{other, leaf(), api.ErrKind},
		{item, field{Kind: api.FieldLeaf, Len: 1}, api.ErrKind},
		{item, field{Kind: api.FieldLeaf, Type: 1}, api.ErrKind},
		{item, field{Kind: api.FieldLeaf, Link: 1}, api.ErrKind},
		{item, field{Kind: api.FieldLeaf, Key: 1}, api.ErrKind},
		// FieldList
		{box, listOf(item, 1), api.OK},
		{box, listOf(shared, 1), api.OK},
		{item, listOf(item, 1), api.ErrKind},
		{shared, listOf(item, 1), api.ErrKind},
		{box, field{Kind: api.FieldList, Link: 1, Len: 1}, api.ErrKind},
		{box, field{Kind: api.FieldList, Link: 1, Key: 1}, api.ErrKind},
		{box, field{Kind: api.FieldList, Type: 4, Link: 1, Key: 1}, api.ErrKind}, // ahead of ErrRange
		{item, listOf(4, 1), api.ErrKind},                                        // ahead of ErrRange
		{box, listOf(4, 1), api.ErrRange},
		{box, listOf(-1, 1), api.ErrRange},
		{box, listOf(4, 0), api.ErrRange},
		{box, listOf(other, 0), api.ErrKind},
		{box, listOf(box, 0), api.ErrKind},
		{box, listOf(item, 0), api.ErrKind},
		{box, listOf(item, 2), api.ErrKind},
		{box, listOf(item, 3), api.ErrKind},
		{box, listOf(item, 4), api.ErrKind},
		{box, listOf(item, -1), api.ErrKind},
		// FieldTree
		{box, treeOf(item, 2, 0), api.OK},
		{box, treeOf(shared, 2, 0), api.ErrKind},
		{item, treeOf(item, 2, 0), api.ErrKind},
		{shared, treeOf(item, 2, 0), api.ErrKind},
		{box, field{Kind: api.FieldTree, Link: 2, Len: 1}, api.ErrKind},
		{box, field{Kind: api.FieldTree, Type: 4, Link: 2, Len: 1}, api.ErrKind}, // ahead of ErrRange
		{item, treeOf(4, 2, 0), api.ErrKind},                                     // ahead of ErrRange
		{box, treeOf(4, 2, 0), api.ErrRange},
		{box, treeOf(-1, 2, 0), api.ErrRange},
		{box, treeOf(4, 9, 9), api.ErrRange},
		{box, treeOf(other, 2, 0), api.ErrKind},
		{box, treeOf(item, 0, 0), api.ErrKind},
		{box, treeOf(item, 1, 0), api.ErrKind},
		{box, treeOf(item, 3, 0), api.ErrKind},
		{box, treeOf(item, 4, 0), api.ErrKind},
		{box, treeOf(item, -1, 0), api.ErrKind},
		{box, treeOf(item, 2, 1), api.ErrKind},
		{box, treeOf(item, 2, 2), api.ErrKind},
		{box, treeOf(item, 2, 3), api.ErrKind},
		{box, treeOf(item, 2, 4), api.ErrKind},
		{box, treeOf(item, 2, -1), api.ErrKind},
		// FieldLock
		{other, lock(), api.OK},
		{box, lock(), api.ErrLock},
		{item, lock(), api.ErrKind},
		{shared, lock(), api.ErrKind},
		{other, field{Kind: api.FieldLock, Len: 1}, api.ErrKind},
		{other, field{Kind: api.FieldLock, Type: 1}, api.ErrKind},
		{other, field{Kind: api.FieldLock, Link: 1}, api.ErrKind},
		{other, field{Kind: api.FieldLock, Key: 1}, api.ErrKind},
		// any other kind
		{item, field{}, api.ErrKind},
		{item, field{Kind: 8}, api.ErrKind},
		{box, field{Kind: 8, Len: 17, Type: 9}, api.ErrKind},
		{shared, field{Kind: -1}, api.ErrKind},
		{item, field{Kind: math.MaxInt}, api.ErrKind},
		{item, field{Kind: 1<<32 + 1, Len: 1}, api.ErrKind},
	} {
		at := c.at
		if c.err == api.OK {
			at = 0
		}
		wantCheck(t, with(c.at, c.f), at, c.err)
	}
}

// P5.1: indexes and numbers far outside, in each field of api.Field: none of them wraps round into its range.
func TestCheckOfNumbersOutside(t *testing.T) {
	for _, n := range outside() {
		wantCheck(t, with(item, scalar(n)), item, api.ErrRange)
		wantCheck(t, with(item, ptr(n)), item, api.ErrRange)
		wantCheck(t, with(box, listOf(n, 1)), box, api.ErrRange)
		wantCheck(t, with(box, treeOf(n, 2, 0)), box, api.ErrRange)
		wantCheck(t, with(box, listOf(item, n)), box, api.ErrKind)
		wantCheck(t, with(box, treeOf(item, n, 0)), box, api.ErrKind)
		wantCheck(t, with(box, treeOf(item, 2, n)), box, api.ErrKind)
		wantCheck(t, with(item, api.Field{Kind: n}), item, api.ErrKind)
		for kind := 1; kind <= 7; kind++ {
			wantModel(t, with(other, api.Field{Kind: kind, Len: n}))
			wantModel(t, with(other, api.Field{Kind: kind, Type: n}))
			wantModel(t, with(other, api.Field{Kind: kind, Link: n}))
			wantModel(t, with(other, api.Field{Kind: kind, Key: n}))
		}
	}
	// Their bytes would wrap round to a small size.
	wantCheck(t, list{plain("a", scalar(math.MaxInt/8+1), scalar(math.MaxInt/8+1))}, 0, api.ErrRange)
	wantCheck(t, list{plain("a", scalar(1<<61))}, 0, api.ErrRange)
}

// P5.1: a target is taken as it stands, though it is checked later and fails then.
func TestCheckOfTargetsAheadOfTheirOwnChecks(t *testing.T) {
	long := repeat(20, scalar(1))
	long[15] = node()
	wantCheck(t, list{value("v", lock(), listOf(1, 15)), plain("a", long...)}, 1, api.ErrSize)
	wantCheck(t, list{value("v", lock(), listOf(1, 14)), plain("a", long...)}, 0, api.ErrKind)
	wantCheck(t, list{value("v", lock(), listOf(1, 0)), plain("a", api.Field{Kind: api.FieldNode, Key: 7})}, 1, api.ErrKind)
	wantCheck(t, list{value("v", lock(), treeOf(1, 0, 1)), plain("a", leaf(), scalar(99))}, 1, api.ErrRange)
	wantCheck(t, list{plain("v", ptr(1)), plain("v")}, 1, api.ErrForm)
	wantCheck(t, list{plain("v", ptr(1)), value("v")}, 0, api.ErrKind)
}

// P5.1: locks.
func TestCheckOfLocks(t *testing.T) {
	for _, c := range []struct {
		f   fields
		err api.Errno
	}{
		{fields{}, api.OK},
		{fields{lock()}, api.OK},
		{fields{scalar(1), lock(), ptr(0)}, api.OK},
		{fields{lock(), lock()}, api.ErrLock},
		{fields{lock(), scalar(1), lock()}, api.ErrLock},
		{repeat(12, lock()), api.ErrLock},
		{fields{listOf(0, 1)}, api.ErrLock},
		{fields{treeOf(0, 2, 0)}, api.ErrLock},
		{fields{listOf(0, 1), treeOf(0, 2, 0), scalar(1)}, api.ErrLock},
		{fields{listOf(0, 1), lock()}, api.OK},
		{fields{lock(), treeOf(0, 2, 0)}, api.OK},
		{fields{lock(), treeOf(0, 2, 0), listOf(0, 1), listOf(0, 1)}, api.OK},
		{fields{lock(), listOf(0, 1), lock()}, api.ErrLock},
		{fields{lock(), lock(), treeOf(0, 2, 0)}, api.ErrLock},
	} {
		l := base()
		l[box].Fields = c.f
		at := box
		if c.err == api.OK {
			at = 0
		}
		wantCheck(t, l, at, c.err)
	}
}

// P5.1: of two checks that fail, the first counts.
func TestCheckInOrder(t *testing.T) {
	both := func(name string, f ...api.Field) api.Type {
		return api.Type{Name: name, Value: true, Refs: true, Fields: f}
	}
	full := repeat(12, scalar(16))
	for _, c := range []struct {
		l   list
		at  int
		err api.Errno
	}{
		// Within a type, each check ahead of those that follow it.
		{list{plain("", repeat(13, scalar(1))...)}, 0, api.ErrForm},
		{list{both("-")}, 0, api.ErrForm},
		{list{plain("a"), plain("a", scalar(0))}, 1, api.ErrForm},
		{list{value("-", lock(), lock())}, 0, api.ErrForm},
		{list{plain("-", full...)}, 0, api.ErrForm},
		{list{both("a", repeat(13, scalar(1))...)}, 0, api.ErrSize},
		{list{plain("a", repeat(13, scalar(0))...)}, 0, api.ErrSize},
		{list{plain("a", repeat(13, api.Field{})...)}, 0, api.ErrSize},
		{list{value("a", repeat(13, lock())...)}, 0, api.ErrSize},
		{list{both("a", scalar(0))}, 0, api.ErrKind},
		{list{both("a", lock(), lock())}, 0, api.ErrKind},
		{list{both("a", full...)}, 0, api.ErrKind},
		{list{value("a", lock(), lock(), scalar(17))}, 0, api.ErrRange},
		{list{value("a", lock(), lock(), node())}, 0, api.ErrKind},
		{list{value("a", listOf(9, 0))}, 0, api.ErrRange},
		{list{plain("a", append(full[:11:11], scalar(17))...)}, 0, api.ErrRange},
		{list{plain("a", append(full[:11:11], lock())...)}, 0, api.ErrKind},
		{list{value("a", append(full[:10:10], lock(), lock())...)}, 0, api.ErrLock},
		{list{value("a", append(full[:11:11], listOf(1, 0))...), plain("b", node())}, 0, api.ErrLock},
		// Fields in their order.
		{list{plain("a", scalar(0), lock())}, 0, api.ErrRange},
		{list{plain("a", lock(), scalar(0))}, 0, api.ErrKind},
		{list{plain("a", ptr(7), ptr(1)), value("b")}, 0, api.ErrRange},
		{list{plain("a", ptr(1), ptr(7)), value("b")}, 0, api.ErrKind},
		// Types in their order, each with all its checks.
		{list{plain("a", full...), plain("-")}, 0, api.ErrSize},
		{list{plain("a", scalar(0)), plain("a")}, 0, api.ErrRange},
		{list{value("a", lock(), lock()), both("b"), plain("")}, 0, api.ErrLock},
		{list{plain("a"), plain("b", scalar(0)), both("c")}, 1, api.ErrRange},
		// Refs types that reach themselves, after all of that.
		{list{refs("a", ptr(0)), plain("a")}, 1, api.ErrForm},
		{list{refs("a", ptr(0)), plain("b", full...)}, 1, api.ErrSize},
		{list{refs("a", ptr(0)), value("b", lock(), lock())}, 1, api.ErrLock},
		{list{refs("a", ptr(0)), plain("b", scalar(0))}, 1, api.ErrRange},
		{list{refs("a", ptr(0)), plain("b", ptr(2))}, 1, api.ErrRange},
		{list{refs("a", ptr(0), lock()), plain("b", scalar(0))}, 0, api.ErrKind},
		{list{plain("z"), refs("a", ptr(1)), refs("b", ptr(2))}, 1, api.ErrKind},
	} {
		wantCheck(t, c.l, c.at, c.err)
		wantEncoded(t, c.l, c.err)
	}
}

// P5.1: Refs types that reach themselves in one step, in several, and not at all.
func TestCheckOfWaysBack(t *testing.T) {
	for _, c := range []struct {
		l   list
		at  int
		err api.Errno
	}{
		{list{refs("a", ptr(0))}, 0, api.ErrKind},
		{list{plain("a", ptr(0))}, 0, api.OK},
		{list{refs("a", scalar(1), ptr(1), ptr(0)), plain("b")}, 0, api.ErrKind},
		{list{plain("a", ptr(1)), refs("b", ptr(0))}, 1, api.ErrKind},
		{list{refs("a", ptr(1)), refs("b", ptr(0))}, 0, api.ErrKind},
		{list{refs("a", ptr(1)), refs("b")}, 0, api.OK},
		{list{refs("a"), refs("b", ptr(0))}, 0, api.OK},
		{list{refs("a", ptr(1)), plain("b", ptr(2)), plain("c", ptr(0))}, 0, api.ErrKind},
		{list{refs("a", ptr(1)), plain("b", ptr(1))}, 0, api.OK}, // into a ring that it isn't in
		{list{refs("a", ptr(1)), plain("b", ptr(2)), plain("c", ptr(1))}, 0, api.OK},
		{list{plain("a", ptr(0), ptr(1)), refs("b")}, 0, api.OK}, // out of a ring
		{list{refs("a", ptr(1), ptr(2)), plain("b"), plain("c", ptr(1), ptr(0))}, 0, api.ErrKind},
		{list{refs("a", ptr(1), ptr(1)), refs("b", ptr(2), ptr(2)), refs("c")}, 0, api.OK},
		{list{refs("a", ptr(1), ptr(2)), plain("b", ptr(3)), plain("c", ptr(3)), refs("d")}, 0, api.OK}, // two ways, none back
		// Lists and trees aren't followed, nor are the pointers of a value.
		{list{refs("a", node()), value("v", lock(), listOf(0, 0), ptr(0))}, 0, api.OK},
		// Link, Key and Len of other fields aren't pointers.
		{list{plain("z"), refs("a", scalar(1), node())}, 0, api.OK},
		{list{refs("a", ptr(1)), plain("b", scalar(1), node(), leaf())}, 0, api.OK},
	} {
		wantCheck(t, c.l, c.at, c.err)
	}
}

// P5.1: a ring of many types, with one type of it Refs; and the same types in a row.
func TestCheckOfLongWaysBack(t *testing.T) {
	for n := 1; n <= 32; n++ {
		for counted := range n {
			l := many(n)
			for i := range l {
				l[i].Fields = fields{ptr((i + 1) % n)}
			}
			wantCheck(t, l, 0, api.OK)
			l[counted].Refs = true
			wantCheck(t, l, counted, api.ErrKind)
			l[n-1].Fields = nil
			wantCheck(t, l, 0, api.OK)
		}
	}
	// Many ways to go, if each were gone by itself.
	l := many(32)
	for i := range l {
		l[i].Refs = true
		for to := i + 1; to < min(i+13, 32); to++ {
			l[i].Fields = append(l[i].Fields, ptr(to))
		}
	}
	wantCheck(t, l, 0, api.OK)
	l[31].Fields = fields{ptr(7)}
	wantCheck(t, l, 7, api.ErrKind) // those ahead of it lead into a ring that they aren't in
}

// P5.1: all pointers that three types can have, with all their Refs.
func TestCheckOfAllSmallWays(t *testing.T) {
	for code := range 1 << 12 {
		l := many(3)
		for i := range l {
			l[i].Refs = code>>(9+i)&1 == 1
			for to := range l {
				if code>>(3*i+to)&1 == 1 {
					l[i].Fields = append(l[i].Fields, ptr(to))
				}
			}
		}
		wantModel(t, l)
	}
}

// P5.1: one more field, with all chosen numbers, in a type of each sort.
func TestCheckOfAllFields(t *testing.T) {
	for at := range base() {
		for kind := -1; kind <= 9; kind++ {
			for _, n := range []int{-1, 0, 1, 16, 17} {
				for to := -1; to <= 4; to++ {
					for link := -1; link <= 4; link++ {
						for key := -1; key <= 4; key++ {
							wantModel(t, with(at, api.Field{Kind: kind, Len: n, Type: to, Link: link, Key: key}))
						}
					}
				}
			}
		}
	}
}

// P5.1: all pairs and triples of chosen fields, in types of all flags, so that many checks fail at once.
func TestCheckOfAllSmallTypes(t *testing.T) {
	some := fields{scalar(1), scalar(0), scalar(16), ptr(0), ptr(1), ptr(9), node(), leaf(), listOf(0, 1), listOf(0, 9), treeOf(0, 2, 0), treeOf(9, 2, 0), lock(), {Kind: 8}}
	for flags := range 4 {
		for _, name := range []string{"new", "item", ""} {
			for _, a := range some {
				for _, b := range some {
					for _, c := range some {
						l := append(base()[:1:1], refs("b"), api.Type{Name: name, Value: flags&1 != 0, Refs: flags&2 != 0, Fields: fields{a, b, c}})
						wantModel(t, l)
					}
				}
			}
		}
	}
}
