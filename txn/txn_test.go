package txn_test

import (
	"fmt"
	"math"
	"strings"
	"testing"

	"levee/api"
	"levee/txn"
)

// P8.1: keys, ordinary ones and the edges.
func TestKeys(t *testing.T) {
	for _, s := range []string{
		"a", "z", "m", "0", "9", "/", "//", "a/b", "/a", "a/", "stock/17", "0a", "abcdefghijklmnopqrstuvwxyz", "0123456789/",
		strings.Repeat("a", 31), strings.Repeat("a", 32), strings.Repeat("/", 32), strings.Repeat("9", 32),
	} {
		if !txn.Key(s) {
			t.Errorf("Key(%q): false", s)
		}
	}
	for _, s := range []string{
		"", strings.Repeat("a", 33), strings.Repeat("/", 33), strings.Repeat("0", 64), strings.Repeat("a", 1<<20),
		"A", "a b", " a", "a ", "a\n", "\na", "a\x00", "a-b", "a.b", "a_b", "-", "\\", "a\\b", "é", "aé", "ａ", "٣", "\xff", "a\xffb",
		strings.Repeat("a", 31) + "A", "A" + strings.Repeat("a", 31), strings.Repeat("é", 16),
	} {
		if txn.Key(s) {
			t.Errorf("Key(%.100q): true", s)
		}
	}
}

// P8.1: each byte, alone and at each place of a key of 1 to 32 bytes.
func TestKeyBytes(t *testing.T) {
	letters := "abcdefghijklmnopqrstuvwxyz0123456789/"
	for c := range 256 {
		b := string([]byte{byte(c)})
		want := strings.Contains(letters, b)
		for _, n := range []int{1, 2, 3, 31, 32} {
			for at := range n {
				s := strings.Repeat("k", at) + b + strings.Repeat("k", n-at-1)
				if txn.Key(s) != want {
					t.Fatalf("Key(%q): %v", s, !want)
				}
			}
		}
	}
}

// P8.1: members' words.
func TestMembers(t *testing.T) {
	for i, s := range plainMembers {
		if got := txn.Member(s); got != i {
			t.Errorf("Member(%q) = %d", s, got)
		}
	}
	for c := range 256 {
		s := string([]byte{byte(c)})
		if !strings.Contains("01234567", s) && txn.Member(s) != -1 {
			t.Errorf("Member(%q) = %d", s, txn.Member(s))
		}
	}
	for _, s := range []string{
		"", "8", "9", "-", "/", ":", "00", "07", "70", "77", "10", "-1", "+1", "-0", "7 ", " 7", "7\n", "7\x00", "\x007", "0x", "1.",
		"٣", "７", "²", "7é", "seven", strings.Repeat("0", 8), strings.Repeat("7", 1<<20),
	} {
		if got := txn.Member(s); got != -1 {
			t.Errorf("Member(%.100q) = %d", s, got)
		}
	}
}

// kinds: the eight, and numbers that are none of them, also such as have the lowest bits of one.
var kinds = []int{
	1, 2, 3, 4, 5, 6, 7, 8, 0, 9, 10, -1, -2, -3, -4, -8, 11, 100, 255, 256, 257, 258, 259, 260, 261, 262, 263, 264, 265,
	1<<16 + 4, 1<<32 + 1, 1<<32 + 4, 1<<32 + 7, math.MaxInt, math.MinInt, math.MinInt + 1, math.MinInt + 4,
}

// amounts: the edges of N, and numbers that have the lowest bits of one that may be.
var amounts = []int64{
	0, 1, 2, 5, most - 1, most, most + 1, 2 * most, 1 << 32, 1 << 41, 1 << 62, math.MaxInt64, math.MaxInt64 - 1,
	-1, -2, -5, -most, -most - 1, -most + 1, math.MinInt64, math.MinInt64 + 1,
}

var elems = []string{
	"", "x", "0", "1", "2", "3", "4", "5", "6", "7", "8", "9", "-", "00", "07", "-1", "any elem", "\x00", "\xff", "\n", "é",
	strings.Repeat("e", 31), strings.Repeat("e", 32), strings.Repeat("e", 33), strings.Repeat("\xff", 32), strings.Repeat("\xff", 33),
	strings.Repeat("0", 32), strings.Repeat("0", 33), strings.Repeat("e", 1<<17),
}

// origins: members, and numbers that are none's.
var origins = []int{0, 1, 2, 3, 4, 5, 6, 7, -1, 8, 9, -2, 255, 256, 258, 1 << 32, math.MaxInt, math.MinInt}

// P8.1: operations of each Kind with each N, Elem and member.
func TestOps(t *testing.T) {
	taken := map[int]int{}
	for _, kind := range kinds {
		for _, n := range amounts {
			for _, elem := range elems {
				for _, origin := range origins {
					o := op(kind, "k", elem, n)
					want := plainOp(o, origin)
					if txn.Op(o, origin) != want {
						t.Fatalf("Op(%.200q, %d): %v", fmt.Sprint(o), origin, !want)
					}
					if want {
						taken[kind]++
					}
				}
			}
		}
	}
	if len(taken) != 8 {
		t.Errorf("operations of %d kinds were taken", len(taken))
	}
}

// P8.1: an operation of each Kind that may be may no more with a key that may not be.
func TestOpKeys(t *testing.T) {
	for _, o := range every() {
		for _, key := range []string{"a", "/", "7", strings.Repeat("k", 32)} {
			if o.Key = key; !txn.Op(o, 2) {
				t.Errorf("Op(%+v, 2): false", o)
			}
		}
		for _, key := range []string{"", "A", "a b", "\x00", "é", strings.Repeat("k", 33), strings.Repeat("k", 1<<17)} {
			if o.Key = key; txn.Op(o, 2) {
				t.Errorf("Op(%.200q, 2): true", fmt.Sprint(o))
			}
		}
	}
}

// P8.1: the edges of operations, one by one, as the document names them.
func TestOpEdges(t *testing.T) {
	long, longer := strings.Repeat("e", 32), strings.Repeat("e", 33)
	for _, c := range []struct {
		o    api.Op
		want bool
	}{
		{op(1, "a", "", 0), false}, {op(1, "a", "", 1), true}, {op(1, "a", "", most), true}, {op(1, "a", "", most+1), false}, {op(1, "a", "", -1), false},
		{op(2, "a", "", 0), false}, {op(2, "a", "", 1), true}, {op(2, "a", "", most), true}, {op(2, "a", "", most+1), false}, {op(2, "a", "", -1), false},
		{op(1, "a", "x", 1), false}, {op(2, "a", "x", 1), false}, {op(1, "a", "3", 1), false}, {op(2, "a", long, 1), false},
		{op(3, "a", "3", 0), false}, {op(3, "a", "3", 1), true}, {op(3, "a", "3", most), true}, {op(3, "a", "3", most+1), false}, {op(3, "a", "3", -1), false},
		{op(3, "a", "", 1), false}, {op(3, "a", "2", 1), false}, {op(3, "a", "8", 1), false}, {op(3, "a", "-", 1), false}, {op(3, "a", "33", 1), false},
		{op(3, "a", "0", 1), true}, {op(3, "a", "7", 1), true}, {op(3, "a", "\x03", 1), false},
		{op(4, "a", "", 0), true}, {op(4, "a", "x", 0), true}, {op(4, "a", long, 0), true}, {op(4, "a", longer, 0), false}, {op(4, "a", "x", 1), false}, {op(4, "a", "x", -1), false},
		{op(5, "a", "", 0), true}, {op(5, "a", "x", 0), true}, {op(5, "a", long, 0), true}, {op(5, "a", longer, 0), false}, {op(5, "a", "x", 1), false}, {op(5, "a", "x", -1), false},
		{op(6, "a", "", 0), true}, {op(6, "a", "x", 0), true}, {op(6, "a", long, 0), true}, {op(6, "a", longer, 0), false}, {op(6, "a", "x", 1), false}, {op(6, "a", "x", -1), false},
		{op(7, "a", "", 0), true}, {op(7, "a", "x", 0), false}, {op(7, "a", "", 1), false}, {op(7, "a", "", -1), false}, {op(7, "a", long, 0), false},
		{op(8, "a", "", 0), true}, {op(8, "a", "x", 0), false}, {op(8, "a", "", 1), false}, {op(8, "a", "", -1), false}, {op(8, "a", long, 0), false},
		{op(0, "a", "", 0), false}, {op(0, "a", "", 1), false}, {op(9, "a", "", 0), false}, {op(9, "a", "", 1), false}, {op(-1, "a", "", 1), false},
	} {
		if got := txn.Op(c.o, 2); got != c.want {
			t.Errorf("Op(%+v, 2): %v", c.o, got)
		}
		x := of(c.o)
		if !c.want {
			mayNot(t, "an edge", x)
			continue
		}
		mayBe(t, "an edge", x)
	}
}

// P8.1: a Give of each member to each member's word, and to others.
func TestGives(t *testing.T) {
	for origin := range api.MaxMembers {
		x := with(func(x *api.Txn) { x.Origin, x.Deps[origin] = origin, 4 })
		for to, word := range append(plainMembers, "8", "9", "", "-", "00") {
			x.Ops = []api.Op{op(api.Give, "b", word, 3)}
			if to < api.MaxMembers && to != origin {
				mayBe(t, "a Give", x)
			} else {
				mayNot(t, "a Give", x)
			}
		}
	}
}

// P8.1: the chapter's examples.
func TestExamples(t *testing.T) {
	x := api.Txn{Origin: 0, Seq: 1, Stamp: 1, Ops: []api.Op{op(api.Inc, "a", "", 5)}}
	mayBe(t, "the example", x)
	x.Seq = 2
	mayNot(t, "the example with Seq 2", x)
	refused(t, "the example", "", api.ErrBytes)
	if txn.Member("8") != -1 {
		t.Error("Member(8) =", txn.Member("8"))
	}
}

// P8.1: Origin, Seq, Stamp and Deps at their edges.
func TestHeads(t *testing.T) {
	for origin := range api.MaxMembers {
		for _, seq := range []uint64{1, 2, 3, 1 << 32, 1<<63 - 1, 1 << 63, top - 1, top} {
			x := with(func(x *api.Txn) {
				x.Origin, x.Seq = origin, seq
				x.Deps = api.Vector{top, 0, 1, 1 << 63, 5, 0, top, 2}
				x.Deps[origin] = seq - 1
			})
			mayBe(t, "any other Deps", x)
			x.Deps = api.Vector{}
			x.Deps[origin] = seq - 1
			mayBe(t, "no other Deps", x)
			x.Deps[origin] = seq
			mayNot(t, "own Deps one more", x)
			x.Deps[origin] = seq - 2
			mayNot(t, "own Deps one less", x)
			x.Deps[origin], x.Deps[(origin+1)%8] = seq-2, seq-1
			mayNot(t, "own Deps at the next one's place", x)
		}
	}
	for _, stamp := range []uint64{1, 2, 1 << 32, 1<<63 - 1, 1 << 63, top} {
		mayBe(t, "a stamp", with(func(x *api.Txn) { x.Stamp = stamp }))
	}
	mayNot(t, "no stamp", with(func(x *api.Txn) { x.Stamp = 0 }))
	mayNot(t, "no number", with(func(x *api.Txn) { x.Seq, x.Deps[2] = 0, 0 }))
	mayNot(t, "no number, Deps of Seq - 1 that wrapped round", with(func(x *api.Txn) { x.Seq, x.Deps[2] = 0, top }))
	mayNot(t, "the greatest number of Deps, Seq 0", with(func(x *api.Txn) { x.Seq, x.Deps = 0, api.Vector{top, top, top, top, top, top, top, top} }))
	for _, origin := range []int{-1, 8, 9, -2, -8, 10, 255, 256, 258, 1<<32 + 2, math.MaxInt, math.MinInt, math.MinInt + 2} {
		mayNot(t, "an Origin that is no member", with(func(x *api.Txn) { x.Origin = origin }))
		mayNot(t, "an Origin that is no member, first", with(func(x *api.Txn) { x.Origin, x.Seq, x.Deps = origin, 1, api.Vector{} }))
	}
	mayNot(t, "nothing", api.Txn{})
	mayNot(t, "an Origin that is no member, without operations", api.Txn{Origin: -1, Seq: 1, Stamp: 1})
}

// P8.1: how many operations.
func TestCounts(t *testing.T) {
	for n := range 8 {
		x := of(every()[:n+1]...)
		mayBe(t, fmt.Sprint(n+1, " operations"), x)
		x.Ops = nil
		for range n + 1 {
			x.Ops = append(x.Ops, op(api.Inc, "a", "", 1))
		}
		mayBe(t, fmt.Sprint(n+1, " times the same operation"), x)
	}
	mayNot(t, "no operation", of())
	mayNot(t, "no operation, as an empty list", of([]api.Op{}...))
	mayNot(t, "9 operations", of(append(every(), op(api.On, "h", "", 0))...))
	for _, n := range []int{10, 16, 256, 257, 1023, 1 << 17} {
		many := make([]api.Op, n)
		for i := range many {
			many[i] = op(api.On, "h", "", 0)
		}
		mayNot(t, fmt.Sprint(n, " operations"), of(many...))
	}
}

// P8.1: one operation that may not be, at each place.
func TestOneBadOp(t *testing.T) {
	for _, bad := range []api.Op{
		{}, op(api.Inc, "", "", 1), op(api.Inc, "a", "", 0), op(api.Give, "a", "2", 1), op(9, "a", "", 1), op(api.Add, "a", "x", 1),
		op(api.Dec, "A", "", 1), op(api.Write, "a", strings.Repeat("e", 33), 0), op(api.On, "a", "x", 0),
	} {
		for n := range 8 {
			for at := range n + 1 {
				ops := every()[:n+1]
				ops[at] = bad
				mayNot(t, fmt.Sprint("operation ", at, " of ", n+1), of(ops...))
			}
		}
	}
}

// oneField: the transaction with one field changed, each in turn.
func oneField(x api.Txn) map[string]api.Txn {
	l := map[string]api.Txn{}
	put := func(name string, f func(x *api.Txn)) {
		y := x
		y.Ops = append([]api.Op(nil), x.Ops...)
		f(&y)
		l[name] = y
	}
	put("Origin", func(x *api.Txn) { x.Origin++ })
	put("Seq", func(x *api.Txn) { x.Seq++ })
	put("Seq far off", func(x *api.Txn) { x.Seq += 1 << 63 })
	put("Stamp", func(x *api.Txn) { x.Stamp++ })
	put("Stamp far off", func(x *api.Txn) { x.Stamp += 1 << 63 })
	for i := range x.Deps {
		put(fmt.Sprint("Deps ", i), func(x *api.Txn) { x.Deps[i]++ })
		put(fmt.Sprint("Deps far off ", i), func(x *api.Txn) { x.Deps[i] += 1 << 63 })
	}
	for i := range x.Ops {
		put(fmt.Sprint("Kind ", i), func(x *api.Txn) { x.Ops[i].Kind++ })
		put(fmt.Sprint("Kind far off ", i), func(x *api.Txn) { x.Ops[i].Kind += 256 })
		put(fmt.Sprint("Key ", i), func(x *api.Txn) { x.Ops[i].Key += "a" })
		put(fmt.Sprint("Elem ", i), func(x *api.Txn) { x.Ops[i].Elem += "a" })
		put(fmt.Sprint("Key to Elem ", i), func(x *api.Txn) { x.Ops[i].Key, x.Ops[i].Elem = x.Ops[i].Key[1:], x.Ops[i].Key[:1]+x.Ops[i].Elem })
		put(fmt.Sprint("N ", i), func(x *api.Txn) { x.Ops[i].N = ^x.Ops[i].N })
		put(fmt.Sprint("N far off ", i), func(x *api.Txn) { x.Ops[i].N += math.MinInt64 })
		put(fmt.Sprint("without ", i), func(x *api.Txn) { x.Ops = append(x.Ops[:i], x.Ops[i+1:]...) })
		put(fmt.Sprint("twice ", i), func(x *api.Txn) { x.Ops = append(x.Ops[:i:i], append([]api.Op{x.Ops[i]}, x.Ops[i:]...)...) })
	}
	if len(x.Ops) > 1 {
		put("the other way round", func(x *api.Txn) { x.Ops[0], x.Ops[1] = x.Ops[1], x.Ops[0] })
	}
	return l
}

// unlike: neither way round the same, alone and in lists.
func unlike(t *testing.T, name string, a, b api.Txn) {
	t.Helper()
	if txn.Same(a, b) || txn.Same(b, a) {
		t.Errorf("%s: %+v and %+v are the same", name, a, b)
	}
	c := of(every()...)
	for at := range 3 {
		l, m := []api.Txn{c, c, c}, []api.Txn{c, c, c}
		l[at], m[at] = a, b
		if txn.SameList(l, m) || txn.SameList(m, l) {
			t.Errorf("%s: lists are the same that are not, at %d", name, at)
		}
	}
}

// P8.1: Same and SameList see each field.
func TestSame(t *testing.T) {
	bases := []api.Txn{
		of(every()...), of(op(api.Inc, "a", "", 5)), of(op(0, "some key", "e", -1), op(-3, "K", "", 0)),
		{Origin: -1, Ops: []api.Op{op(9, "A", "\xff", most+1)}},
	}
	for _, x := range bases {
		if !txn.Same(x, x) || !txn.Same(x, txn.Copy(x)) || !txn.SameList([]api.Txn{x, x}, []api.Txn{txn.Copy(x), x}) {
			t.Errorf("%+v isn't the same as itself", x)
		}
		for name, y := range oneField(x) {
			unlike(t, name, x, y)
		}
	}
}

// P8.1: lists that hold nothing, and lists of unlike lengths.
func TestSameLists(t *testing.T) {
	if !txn.Same(api.Txn{}, api.Txn{}) || !txn.Same(api.Txn{}, api.Txn{Ops: []api.Op{}}) || !txn.Same(api.Txn{Ops: []api.Op{}}, api.Txn{}) {
		t.Error("transactions without operations are not the same")
	}
	unlike(t, "nothing, and an operation of noughts", api.Txn{}, api.Txn{Ops: make([]api.Op, 1)})
	if !txn.SameList(nil, nil) || !txn.SameList(nil, []api.Txn{}) || !txn.SameList([]api.Txn{}, nil) {
		t.Error("lists that hold nothing are not the same")
	}
	a, b := of(every()...), of(op(api.Off, "a", "", 0))
	l := []api.Txn{a, b, a, {}, b}
	for n := range len(l) + 1 {
		for k := range len(l) + 1 {
			if got := txn.SameList(l[:n], l[:k]); got != (n == k) {
				t.Errorf("SameList of lists of %d and %d: %v", n, k, got)
			}
		}
	}
	if txn.SameList([]api.Txn{a, b}, []api.Txn{b, a}) || txn.SameList(nil, make([]api.Txn, 1)) || txn.SameList(make([]api.Txn, 1), nil) {
		t.Error("unlike lists are the same")
	}
}

// P8.1: Copy of any transaction, also of one that may not be.
func TestCopy(t *testing.T) {
	for _, x := range []api.Txn{
		{}, {Ops: []api.Op{}}, of(), of(every()...), {Origin: -9, Seq: top, Stamp: 0, Ops: make([]api.Op, 100)}, of(op(-1, "", strings.Repeat("e", 1<<17), -1)),
	} {
		if got := txn.Copy(x); !alike(got, x) {
			t.Errorf("Copy of %.300q: %.300q", fmt.Sprint(x), fmt.Sprint(got))
		}
	}
}
