package fold_test

import (
	"math"
	"math/rand"
	"strings"
	"testing"

	"levee/api"
	"levee/fold"
	"levee/txn"
)

// good: a transaction that may be, with something for each kind of keys.
func good() api.Txn {
	return made(2, 3, 4, api.Vector{1, 5}, inc(3), add("x"), write("x"), on(), remove("y"), give(1, "0"))
}

// A spoilt one is a transaction that may not be.
type spoilt struct {
	name string
	t    api.Txn
}

// spoiltTxns: in each of the ways of chapter 8's Check.
func spoiltTxns() []spoilt {
	var l []spoilt
	head := func(name string, f func(x *api.Txn)) {
		x := good()
		f(&x)
		l = append(l, spoilt{name, x})
	}
	for _, origin := range []int{-1, 8, 9, 256, 258, 1<<32 + 2, math.MinInt, math.MaxInt} {
		head("an Origin that is none", func(x *api.Txn) { x.Origin = origin })
	}
	head("another Origin", func(x *api.Txn) { x.Origin = 3 })
	head("no number", func(x *api.Txn) { x.Seq, x.Deps[2] = 0, top })
	head("no number, and none of its own", func(x *api.Txn) { x.Seq, x.Deps[2] = 0, 0 })
	head("another number", func(x *api.Txn) { x.Seq = 4 })
	head("the greatest number", func(x *api.Txn) { x.Seq = top })
	head("no stamp", func(x *api.Txn) { x.Stamp = 0 })
	head("it depends on itself", func(x *api.Txn) { x.Deps[2] = 3 })
	head("it doesn't depend on the one ahead", func(x *api.Txn) { x.Deps[2] = 1 })
	head("no operations", func(x *api.Txn) { x.Ops = nil })
	head("no operations", func(x *api.Txn) { x.Ops = []api.Op{} })
	head("nine operations", func(x *api.Txn) {
		x.Ops = []api.Op{inc(1), inc(1), inc(1), inc(1), inc(1), inc(1), inc(1), inc(1), inc(1)}
	})
	head("nothing at all", func(x *api.Txn) { *x = api.Txn{} })
	for _, o := range spoiltOps() {
		for place := range good().Ops {
			head("an operation", func(x *api.Txn) { x.Ops[place] = o })
		}
		head("an operation on the other key", func(x *api.Txn) { x.Ops = append(x.Ops, away(o)) })
	}
	for _, k := range []string{"", "K", "k.", "k ", "é", "k\x00", strings.Repeat("k", 33)} {
		head("an operation of a key that may not be", func(x *api.Txn) { x.Ops = append(x.Ops, api.Op{Kind: api.Inc, Key: k, N: 1}) })
	}
	return l
}

// spoiltOps: operations that may not be, of a key that may.
func spoiltOps() []api.Op {
	l := []api.Op{{Key: key}, {Kind: 9, Key: key}, {Kind: -1, Key: key}, {Kind: 1<<32 + 4, Key: key, Elem: "x"}}
	for _, n := range []int64{0, -1, 1<<40 + 1, math.MinInt64, math.MaxInt64} {
		l = append(l, inc(n), dec(n), give(n, "1"))
		if n != 0 {
			for _, o := range []api.Op{add("x"), remove("x"), write("x"), on(), off()} {
				o.N = n
				l = append(l, o)
			}
		}
	}
	for _, o := range []api.Op{inc(1), dec(1), on(), off()} {
		o.Elem = "x"
		l = append(l, o)
	}
	for _, to := range []string{"", "2", "8", "01", "x", "-1", " 1"} {
		l = append(l, give(1, to))
	}
	long := strings.Repeat("x", 33)
	return append(l, add(long), remove(long), write(long))
}

// refuses: the answer is that error, and nothing.
func refuses(t *testing.T, name string, s api.State, x api.Txn, key string, want api.Errno) {
	t.Helper()
	if got, err := fold.Apply(s, x, key); !sameState(got, api.State{}) || err != want {
		t.Errorf("%s: Apply of %+v to %s: %s, %v; want %v", name, x, shown(s), shown(got), err, want)
	}
}

// P11.1: a state whose Kind is none comes first, whatever the transaction and the key are.
func TestKindFirst(t *testing.T) {
	r := rand.New(rand.NewSource(1))
	list := append(spoiltTxns(), spoilt{"a good one", good()}, spoilt{"on the other key", made(0, 1, 1, api.Vector{}, away(inc(1)))})
	for _, kind := range wrongKinds() {
		for _, c := range list {
			refuses(t, c.name, api.State{Kind: kind}, c.t, key, api.ErrKind)
			refuses(t, c.name, someState(r, kind), c.t, key, api.ErrKind)
			refuses(t, c.name, someState(r, kind), c.t, "K", api.ErrKind)
		}
	}
}

// P11.1: then comes a transaction that may not be, in each way, also where it has nothing on the key.
func TestTxnSecond(t *testing.T) {
	if err := txn.Check(good()); err != api.OK {
		t.Fatal("the good one:", err)
	}
	for _, c := range spoiltTxns() {
		if err := txn.Check(c.t); err != api.ErrTxn {
			t.Errorf("%s: Check of %+v: %v", c.name, c.t, err)
		}
		for _, kind := range kinds {
			for _, s := range []api.State{beginning(kind, 1), filled(kind)} {
				refuses(t, c.name, s, c.t, key, api.ErrTxn)
				refuses(t, c.name, s, c.t, other, api.ErrTxn)
				refuses(t, c.name, s, c.t, "", api.ErrTxn)
			}
		}
	}
}

// P11.1: transactions at the edges of what may be are taken.
func TestEdgesTaken(t *testing.T) {
	long := strings.Repeat("x", 32)
	s := begun(t, api.Set, 0)
	applied(t, s, made(0, 1, 1, api.Vector{}, add(long)), key, api.State{Kind: api.Set, Live: tags(at(0, 1, 0, long))})
	applied(t, s, made(7, top, top, api.Vector{top, top, top, top, top, top, top}, add("\x00")), key, api.State{Kind: api.Set, Live: tags(at(7, top, 0, "\x00"))})
	eight := made(1, 1, 1, api.Vector{}, give(1, "0"), give(1<<40, "7"), inc(1<<40), dec(1), on(), off(), write(long), add("x"))
	applied(t, s, eight, key, api.State{Kind: api.Set, Live: tags(at(1, 1, 7, "x"))})
	applied(t, begun(t, api.Bound, 0), eight, key, api.State{Kind: api.Bound, N: 1<<40 - 1})
	wide := strings.Repeat("k", 32)
	applied(t, s, made(0, 1, 1, api.Vector{}, api.Op{Kind: api.Add, Key: wide, Elem: "x"}), wide, api.State{Kind: api.Set, Live: tags(at(0, 1, 0, "x"))})
}
