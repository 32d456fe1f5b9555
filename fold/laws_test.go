package fold_test

import (
	"fmt"
	"math/rand"
	"slices"
	"strconv"
	"testing"
	"time"

	"levee/api"
	"levee/cut"
	"levee/fold"
	"levee/txn"
	"levee/value"
	"levee/vec"
)

// P11.1: Apply against the plain telling, of states with anything in them and any transactions, also such as were applied or come too early.
func TestAsTold(t *testing.T) {
	r := rand.New(rand.NewSource(1))
	changes, refused := map[int]int{}, 0
	for range 6000 {
		for kind := range 10 {
			s, x := someState(r, kind), someTxn(r, counted(kind))
			if r.Intn(20) == 0 {
				bad := spoiltTxns()
				x = bad[r.Intn(len(bad))].t
			}
			got, err := fold.Apply(s, x, key)
			want, wantErr := plainApply(s, x, key)
			if !sameState(got, want) || err != wantErr {
				t.Fatalf("behind %+v\n%s becomes %s, %v\nwant %s, %v", x, shown(s), shown(got), err, shown(want), wantErr)
			}
			if err != api.OK {
				refused++
			} else if !sameState(got, plainNamed(s)) {
				changes[kind]++
			}
		}
	}
	for _, kind := range kinds {
		if changes[kind] < 1500 {
			t.Errorf("kind %d: changed %d times", kind, changes[kind])
		}
	}
	if refused < 10000 {
		t.Errorf("refused %d times", refused)
	}
}

// P11.1: states, transactions and keys that are handed in stay as they are, their spare room too, and nothing of them is kept.
func TestHandedIn(t *testing.T) {
	r := rand.New(rand.NewSource(2))
	for range 1500 {
		for kind := range 10 {
			s, x := someState(r, kind), someTxn(r, counted(kind))
			want, wantErr := plainApply(s, x, key)
			var m room
			given, y, k := m.state(s), m.txn(x), m.text(key)
			got, err := fold.Apply(given, y, k)
			behind := y.Ops[:cap(y.Ops)][len(y.Ops)]
			if !sameState(given, s) || !spareKept(given) || !txn.Same(y, x) || behind != remove(spare) || k != key {
				t.Fatalf("Apply changed what it was handed: %s and %+v, which were %s and %+v", shown(given), y, shown(s), x)
			}
			m.change()
			wreck(given)
			clear(y.Ops[:cap(y.Ops)])
			if !sameState(got, want) || err != wantErr {
				t.Fatalf("Apply kept what it was handed: %s, %v; want %s, %v", shown(got), err, shown(want), wantErr)
			}
			given, y = m.state(s), m.txn(x)
			got, _ = fold.Apply(given, y, key)
			wreck(got)
			if !sameState(given, s) || !spareKept(given) || !txn.Same(y, x) {
				t.Fatalf("an answer of Apply shares memory of %s", shown(s))
			}
		}
	}
}

// ready: the members whose next transaction within the cut stands behind all that it depends on.
func ready(l api.Logs, v, done api.Vector) []int {
	var out []int
	for i := range l {
		if done[i] < v[i] && vec.Leq(l[i][done[i]].Deps, done) {
			out = append(out, i)
		}
	}
	return out
}

// anOrder: the cut's transactions in an order by chance in which each stands behind all that it depends on.
func anOrder(r *rand.Rand, l api.Logs, v api.Vector) []api.Txn {
	var out []api.Txn
	var done api.Vector
	for next := ready(l, v, done); len(next) > 0; next = ready(l, v, done) {
		i := next[r.Intn(len(next))]
		out = append(out, l[i][done[i]])
		done[i]++
	}
	return out
}

// everyOrder: f is told each such order, behind what is done.
func everyOrder(l api.Logs, v, done api.Vector, ahead []api.Txn, f func([]api.Txn)) {
	next := ready(l, v, done)
	if len(next) == 0 {
		f(ahead)
	}
	for _, i := range next {
		behind := done
		behind[i]++
		everyOrder(l, v, behind, append(slices.Clip(ahead), l[i][done[i]]), f)
	}
}

// An act is an operation of a transaction on the key.
type act struct {
	t   api.Txn
	tag api.Tag
}

// plainState: the state of a key at a closed cut, by what the chapter says that a state is, whatever the order.
func plainState(kind int, start int64, l api.Logs, v api.Vector) api.State {
	of := func(kinds ...int) []act {
		var out []act
		for i, log := range l {
			for _, x := range log[:v[i]] {
				for place, o := range x.Ops {
					if o.Key == key && slices.Contains(kinds, o.Kind) {
						out = append(out, act{x, at(i, x.Seq, place, o.Elem)})
					}
				}
			}
		}
		return out
	}
	unseen := func(of, by []act, any bool) []api.Tag {
		var out []api.Tag
		for _, b := range of {
			if !slices.ContainsFunc(by, func(a act) bool { return (any || a.tag.Elem == b.tag.Elem) && plainSees(a.t, a.tag.Index, b.tag) }) {
				out = append(out, b.tag)
			}
		}
		return out
	}
	s := api.State{Kind: kind}
	switch kind {
	case api.Counter, api.Bound:
		s.N = start
		for _, a := range of(api.Inc) {
			s.N += a.t.Ops[a.tag.Index].N
		}
		for _, a := range of(api.Dec) {
			s.N -= a.t.Ops[a.tag.Index].N
		}
	case api.Set, api.Ids:
		s.Live = unseen(of(api.Add), of(api.Remove), false)
	case api.Firm:
		for _, a := range of(api.Add) {
			s.Ever = append(s.Ever, a.tag.Elem)
		}
		slices.Sort(s.Ever)
		s.Ever = slices.Compact(s.Ever)
		s.Live = unseen(of(api.Remove), of(api.Add), false)
	case api.Last:
		for _, a := range of(api.Write) {
			if a.t.Stamp >= s.Stamp { // the acts stand by tags
				s.Has, s.Stamp, s.Top = true, a.t.Stamp, a.tag
			}
		}
	case api.Multi:
		s.Live = unseen(of(api.Write), of(api.Write), true)
	case api.Flag:
		s.Live = unseen(of(api.On), of(api.Off), false)
		s.Default = start != 0 && len(of(api.Off)) == 0
	}
	return s
}

// A play is a cut of logs, and what a key of one kind begins with.
type play struct {
	kind  int
	start int64
	l     api.Logs
	v     api.Vector
}

// inOrder: of these transactions applied in this order the state is the one that the chapter tells, and its Value is chapter 10's.
func (p play) inOrder(t *testing.T, order []api.Txn) {
	t.Helper()
	if len(order) != len(cut.Order(p.l, p.v)) {
		t.Fatalf("an order of %d transactions", len(order))
	}
	s := begun(t, p.kind, p.start)
	for _, x := range order {
		var err api.Errno
		if s, err = fold.Apply(s, x, key); err != api.OK {
			t.Fatalf("Apply of %+v: %v", x, err)
		}
	}
	if want := plainState(p.kind, p.start, p.l, p.v); !sameState(s, want) {
		t.Fatalf("kind %d from %d in the order %+v\n: %s, want %s", p.kind, p.start, order, shown(s), shown(want))
	}
	got, err := fold.Value(s)
	if want, wantErr := value.Value(p.kind, p.start, p.l, p.v, key); !same(got, want) || err != api.OK || wantErr != api.OK {
		t.Fatalf("kind %d from %d in the order %+v\n: %v, %v; chapter 10 says %v, %v", p.kind, p.start, order, got, err, want, wantErr)
	}
}

// P11.2: small stories, in each order there is.
func TestEachOrder(t *testing.T) {
	stories := []api.Logs{
		{},
		story(by(0, inc(1)), by(1, dec(2)), by(2, inc(3), dec(1))),
		story(by(0, add("x")), by(1, add("x")), by(2, remove("x")).seeing(1), by(3, remove("x")).seeing(0, 1)),
		story(by(0, add("x")), by(1, remove("x")), by(2, add("x")).seeing(0, 1), by(3, remove("x")).seeing(1)),
		story(by(0, remove("x"), add("x")), by(1, remove("x")), by(0, add("y"), remove("y")), by(2, add("x")).seeing(0, 1)),
		story(by(0, write("x")).stamped(7), by(1, write("y")).stamped(7), by(2, write("z")).stamped(3), by(3, write("a")).stamped(3).seeing(0, 0, 1)),
		story(by(0, write("x"), write("y")), by(1, write("z")).seeing(1), by(2, write("w")).seeing(1), by(3, write("v")).seeing(1, 1)),
		story(by(0, on()), by(1, off()), by(2, on()).seeing(0, 1), by(3, off()).seeing(1)),
		story(by(0, on(), off()), by(1, off(), on()), by(2, off()).seeing(0, 1), by(0, on())),
		story(by(0, add("x"), write("x"), on(), inc(1)), by(1, add("y"), write("y"), off(), dec(1)), by(0, remove("x"), write("a"), off()).seeing(0, 1), by(1, remove("x"), remove("y"), write("b"), on()), by(2, add("x"), write("c"), on())),
		story(by(0, away(add("x")), inc(1)), by(1, away(remove("x")), write("x")).seeing(1), by(2, give(3, "0"), away(off()))),
		story(by(0, add("x")), by(1, inc(1)).seeing(1), by(2, remove("x")).seeing(0, 1), by(3, add("x"))), // the third depends on the second alone
	}
	orders := 0
	for _, l := range stories {
		for _, kind := range kinds {
			for _, start := range []int64{0, 1, -5} {
				p := play{kind, start, l, cut.Size(l)}
				everyOrder(p.l, p.v, api.Vector{}, nil, func(order []api.Txn) {
					orders++
					p.inOrder(t, order)
				})
			}
		}
	}
	if orders < 2000 {
		t.Errorf("%d orders", orders)
	}
}

// P11.2: logs by chance, closed cuts of them, and some orders of each.
func TestSomeOrders(t *testing.T) {
	r := rand.New(rand.NewSource(3))
	something := map[int]int{}
	for range 500 {
		for _, kind := range kinds {
			l := someLogs(r, 1+r.Intn(8), 1+r.Intn(16), counted(kind))
			v := cut.Size(l)
			if r.Intn(2) == 0 {
				v[r.Intn(8)] /= 2
			}
			p := play{kind, starts[r.Intn(len(starts))], l, cut.Close(l, v)}
			if !sameState(plainState(kind, p.start, l, p.v), beginning(kind, p.start)) {
				something[kind]++
			}
			p.inOrder(t, cut.Order(p.l, p.v))
			for range 4 {
				p.inOrder(t, anOrder(r, p.l, p.v))
			}
		}
	}
	for _, kind := range kinds {
		if something[kind] < 300 {
			t.Errorf("kind %d: something happened %d times", kind, something[kind])
		}
	}
}

// P11.2: what a later transaction makes of a state doesn't hang on how the state came about: beginnings of orders, then the rest in another order.
func TestOrderOfTheRest(t *testing.T) {
	r := rand.New(rand.NewSource(4))
	for range 300 {
		for _, kind := range kinds {
			l := someLogs(r, 4, 12, counted(kind))
			p := play{kind, 1, l, cut.Size(l)}
			order := anOrder(r, p.l, p.v)
			var done api.Vector
			half := r.Intn(len(order) + 1)
			for _, x := range order[:half] {
				done[x.Origin]++
			}
			if !cut.Closed(l, done) {
				t.Fatalf("%v isn't closed", done)
			}
			play{kind, 1, l, done}.inOrder(t, order[:half])
			rest := slices.DeleteFunc(cut.Order(l, p.v), func(x api.Txn) bool { return vec.Has(done, x.Origin, x.Seq) })
			p.inOrder(t, slices.Concat(order[:half], rest))
		}
	}
}

// P11.2: of an Add and a Remove of one element that don't see each other, and of a Write twice by two members, at each two members.
func TestEachTwoMembers(t *testing.T) {
	for i := range api.MaxMembers {
		for j := range api.MaxMembers {
			if i == j {
				continue
			}
			a, b := made(i, 1, 7, api.Vector{}, add("x"), write("x"), on()), made(j, 1, 7, api.Vector{}, remove("x"), write("y"), off())
			var l api.Logs
			l[i], l[j] = []api.Txn{a}, []api.Txn{b}
			for _, kind := range kinds {
				p := play{kind, 1, l, cut.Size(l)}
				p.inOrder(t, []api.Txn{a, b})
				p.inOrder(t, []api.Txn{b, a})
			}
		}
	}
}

// P11.1: a state of many tags, and one transaction behind another, are answered soon.
func TestMany(t *testing.T) {
	begin := time.Now()
	set, firm := begun(t, api.Set, 0), begun(t, api.Firm, 0)
	for k := range uint64(api.MaxTxns) {
		x := made(3, k+1, k+1, api.Vector{})
		for n := range 8 {
			x.Ops = append(x.Ops, add(fmt.Sprintf("%d.%04d", n, k)))
		}
		set, _ = fold.Apply(set, x, key)
		firm, _ = fold.Apply(firm, x, key)
	}
	a, errA := fold.Value(set)
	b, errB := fold.Value(firm)
	if len(a.Elems) != 8*api.MaxTxns || !slices.IsSorted(a.Elems) || !same(a, b) || errA != api.OK || errB != api.OK {
		t.Errorf("%d and %d elements, %v and %v", len(a.Elems), len(b.Elems), errA, errB)
	}
	big := api.State{Kind: api.Multi}
	for k := range 200000 {
		big.Live = append(big.Live, at(k%8, uint64(k), 0, strconv.Itoa(k)))
	}
	s, err := fold.Apply(big, made(0, top, 1, api.Vector{0, top, top, top, top, top, top, top}, write("x")), key)
	if !sameState(s, api.State{Kind: api.Multi, Live: tags(at(0, 0, 0, "0"), at(0, top, 0, "x"))}) || err != api.OK {
		t.Errorf("behind a Write that sees all but one: %s, %v", shown(s), err)
	}
	if spent := time.Since(begin); spent > 20*time.Second {
		t.Errorf("it took %v", spent)
	}
}

// P11.1: several at one time.
func TestAtOneTime(t *testing.T) {
	x := good()
	done := make(chan bool)
	for range 8 {
		go func() {
			fine := true
			for range 200 {
				for _, kind := range kinds {
					s := filled(kind)
					got, err := fold.Apply(s, x, key)
					want, _ := plainApply(s, x, key)
					fine = fine && sameState(got, want) && err == api.OK
				}
			}
			done <- fine
		}()
	}
	for range 8 {
		if !<-done {
			t.Error("one of eight answered otherwise")
		}
	}
}
