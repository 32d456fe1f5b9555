package value_test

import (
	"fmt"
	"math/rand"
	"slices"
	"strconv"
	"testing"
	"time"

	"levee/api"
	"levee/cut"
	"levee/txn"
	"levee/value"
)

// P10.1: Value against the plain telling, at closed cuts and at open ones.
func TestAsTold(t *testing.T) {
	r := rand.New(rand.NewSource(1))
	open, something, nothing := 0, map[int]int{}, map[int]int{}
	for range 1500 {
		for _, kind := range kinds {
			l := someLogs(r, 1+r.Intn(8), 1+r.Intn(14), counted(kind))
			for range 3 {
				v, start := someCut(r, l), starts[r.Intn(len(starts))]
				if !cut.Closed(l, v) {
					open++
					refuses(t, "by chance", kind, l, v, api.ErrOpen)
					v = cut.Close(l, v)
				}
				want := plainValue(kind, start, l, v, key)
				if same(want, beginning(kind, start)) {
					nothing[kind]++
				} else {
					something[kind]++
				}
				is(t, "by chance", kind, start, l, v, want)
			}
			if t.Failed() {
				t.Fatalf("of %+v", l)
			}
		}
	}
	for _, kind := range kinds {
		if something[kind] < 300 || nothing[kind] < 300 {
			t.Errorf("kind %d: %d times something happened, %d times nothing", kind, something[kind], nothing[kind])
		}
	}
	if open < 1000 {
		t.Errorf("%d cuts were open", open)
	}
}

// without: the logs without the operations on other keys, but for one of each transaction that has no others.
func without(l api.Logs) (api.Logs, int) {
	out := 0
	for i := range l {
		l[i] = slices.Clone(l[i])
		for k, t := range l[i] {
			ops := slices.DeleteFunc(slices.Clone(t.Ops), func(o api.Op) bool { return o.Key != key })
			if len(ops) == 0 {
				ops = t.Ops[:1]
			}
			out += len(t.Ops) - len(ops)
			l[i][k].Ops = ops
		}
	}
	return l, out
}

// P10.2: the value is the same without the operations on other keys.
func TestOthers(t *testing.T) {
	r := rand.New(rand.NewSource(2))
	taken := 0
	for range 1500 {
		for _, kind := range kinds {
			l := someLogs(r, 1+r.Intn(8), 1+r.Intn(14), counted(kind))
			less, n := without(l)
			taken += n
			v, start := cut.Close(l, someCut(r, l)), starts[r.Intn(len(starts))]
			a, errA := value.Value(kind, start, l, v, key)
			b, errB := value.Value(kind, start, less, v, key)
			if !same(a, b) || errA != api.OK || errB != api.OK {
				t.Fatalf("kind %d from %d at %v: %v, %v; without others %v, %v; of %+v", kind, start, v, a, errA, b, errB, l)
			}
		}
	}
	if taken < 10000 {
		t.Errorf("%d operations were taken out", taken)
	}
}

// P10.2: each operation on another key, put in anywhere, changes nothing.
func TestOthersPutIn(t *testing.T) {
	for _, kind := range kinds {
		o, e := counted(kind)[0], counted(kind)[len(counted(kind))-1]
		plain := story(by(0, opOf(o, 0, "x", 3)), by(1, opOf(e, 1, "x", 3)), by(2, opOf(e, 2, "x", 3)).seeing(1), by(3, opOf(o, 3, "y", 3)).seeing(1, 1, 1))
		for strange := api.Inc; strange <= api.Off; strange++ {
			for i := range 4 {
				for place := range 2 {
					l := changed(plain, i, 0, func(x *api.Txn) {
						x.Ops = slices.Insert(x.Ops, place, away(opOf(strange, i, "x", 3)))
					})
					if err := cut.Check(l); err != api.OK {
						t.Fatal(err)
					}
					for _, start := range starts {
						want, _ := value.Value(kind, start, plain, cut.Size(plain), key)
						is(t, fmt.Sprint("with kind ", strange, " on another key"), kind, start, l, cut.Size(l), want)
					}
				}
			}
		}
	}
}

// P10.3: of an Add and a Remove that don't see each other a Set and an Ids have the element, a Firm key hasn't.
func TestAddsWinRemovesWin(t *testing.T) {
	for i := range api.MaxMembers {
		for j := range api.MaxMembers {
			if i == j {
				continue
			}
			third := 0
			for third == i || third == j {
				third++
			}
			var past [api.MaxMembers]uint64
			past[third] = 1
			for name, l := range map[string]api.Logs{
				"two alone":               story(by(i, add("x")), by(j, remove("x"))),
				"the Remove's stamp less": story(by(i, add("x")).stamped(9), by(j, remove("x")).stamped(3)),
				"the Add's stamp less":    story(by(i, add("x")).stamped(3), by(j, remove("x")).stamped(9)),
				"of one stamp":            story(by(i, add("x")).stamped(7), by(j, remove("x")).stamped(7)),
				"behind an Add":           story(by(third, add("x")), by(i, add("x")).seeing(past[:]...), by(j, remove("x")).seeing(past[:]...)),
				"behind a Remove":         story(by(third, remove("x")), by(i, add("x")).seeing(past[:]...), by(j, remove("x")).seeing(past[:]...)),
				"behind others":           story(by(i, inc(1)), by(j, add("y"), remove("y")), by(i, add("x")), by(j, remove("x"))),
			} {
				name = fmt.Sprint(name, ", members ", i, " and ", j)
				is(t, name, api.Set, 0, l, cut.Size(l), elems("x"))
				is(t, name, api.Ids, 0, l, cut.Size(l), elems("x"))
				is(t, name, api.Firm, 0, l, cut.Size(l), elems())
			}
		}
	}
}

// P10.3: of the only Add and the only Remove of an element, in logs by chance.
func TestWinLaw(t *testing.T) {
	r := rand.New(rand.NewSource(3))
	met := 0
	for range 3000 {
		l := someLogs(r, 2+r.Intn(7), 2+r.Intn(6), []int{api.Add, api.Remove})
		v := cut.Size(l)
		for _, e := range []string{"", "x", "y"} {
			another := func(a act) bool { return a.op.Elem != e }
			adds := slices.DeleteFunc(plainActs(l, v, key, api.Add), another)
			removes := slices.DeleteFunc(plainActs(l, v, key, api.Remove), another)
			if len(adds) != 1 || len(removes) != 1 || plainSees(adds[0], removes[0]) || plainSees(removes[0], adds[0]) {
				continue
			}
			met++
			for _, kind := range []int{api.Set, api.Ids, api.Firm} {
				got, err := value.Value(kind, 0, l, v, key)
				if slices.Contains(got.Elems, e) != (kind != api.Firm) || err != api.OK {
					t.Fatalf("kind %d has %q, %v; asked for %q, of %+v", kind, got.Elems, err, e, l)
				}
			}
		}
	}
	if met < 300 {
		t.Errorf("met %d", met)
	}
}

// callAll: Value of each kind, and of a kind that is none, at this cut.
func callAll(l api.Logs, v api.Vector, key string) []api.Value {
	var out []api.Value
	for kind := range 10 {
		w, _ := value.Value(kind, 5, l, v, key)
		out = append(out, w)
	}
	return out
}

// P10.1: logs, cuts and keys that are handed in stay as they are, their spare room too, and nothing of them is kept.
func TestHandedIn(t *testing.T) {
	r := rand.New(rand.NewSource(4))
	for range 300 {
		l := someLogs(r, 1+r.Intn(8), 1+r.Intn(14), []int{api.Add, api.Remove, api.Write})
		if r.Intn(4) == 0 {
			l[7] = append(l[7], api.Txn{})
		}
		v := someCut(r, l)
		if r.Intn(2) == 0 {
			v = cut.Close(l, v)
		}
		var m room
		given, k, w := m.logs(l), m.text(key), v
		got, want := callAll(given, w, k), callAll(l, v, key)
		if !sameLogs(given, l) || w != v || k != key {
			t.Fatal("what was handed in was changed")
		}
		if !spareKept(given) {
			t.Fatal("the spare room of what was handed in was changed")
		}
		m.change()
		for i := range given {
			for _, x := range given[i] {
				clear(x.Ops[:cap(x.Ops)])
			}
			clear(given[i][:cap(given[i])])
		}
		if !slices.EqualFunc(got, want, same) {
			t.Fatalf("%v behind which all that was handed in was changed, want %v", got, want)
		}
	}
}

// P10.1: an answer's list is its own.
func TestNewMemory(t *testing.T) {
	l := story(by(0, add("y"), write("y")), by(1, add("x"), write("x")))
	want := cut.Copy(l)
	first, second := callAll(l, api.Vector{1, 1}, key), callAll(l, api.Vector{1, 1}, key)
	for _, w := range first {
		for i := range w.Elems[:cap(w.Elems)] {
			w.Elems[:cap(w.Elems)][i] = "!"
		}
	}
	if !sameLogs(l, want) || !slices.EqualFunc(second, callAll(l, api.Vector{1, 1}, key), same) {
		t.Error("an answer was changed by another one")
	}
}

// fullLogs: eight full logs of eight operations a transaction, each of which depends on all with lesser numbers.
func fullLogs(op func(member, k, n int) api.Op) api.Logs {
	var l api.Logs
	for k := range uint64(full) {
		for i := range l {
			t := api.Txn{Origin: i, Seq: k + 1, Stamp: k + 1, Deps: all(k)}
			for n := range 8 {
				t.Ops = append(t.Ops, op(i, int(k), n))
			}
			l[i] = append(l[i], t)
		}
	}
	return l
}

// P10.1: logs of as many transactions as they may have are answered, and soon.
func TestFull(t *testing.T) {
	begin := time.Now()
	whole, allBut := all(full), api.Vector{full, full, full, full, full, full, full, full - 1}
	name := func(i, k, n int) string { return strconv.Itoa(i) + "." + strconv.Itoa(k) + "." + strconv.Itoa(n) }
	l := fullLogs(func(i, k, n int) api.Op { return add(name(i, k, n)) })
	got, err := value.Value(api.Set, 0, l, whole, key)
	if firm, _ := value.Value(api.Firm, 0, l, whole, key); len(got.Elems) != 8*8*full || !slices.IsSorted(got.Elems) || err != api.OK || !same(got, firm) {
		t.Errorf("of all elements: %d and %d, %v", len(got.Elems), len(firm.Elems), err)
	}
	l = fullLogs(func(i, k, n int) api.Op { return []api.Op{add("x"), remove("x")}[n%2] })
	is(t, "full", api.Set, 0, l, whole, elems())
	is(t, "full", api.Firm, 0, l, whole, elems())
	l = fullLogs(func(i, k, n int) api.Op { return []api.Op{remove("x"), add("x")}[n%2] })
	is(t, "full", api.Ids, 0, l, whole, elems("x"))
	is(t, "full", api.Firm, 0, l, whole, elems("x"))
	l = fullLogs(func(i, k, n int) api.Op { return write(strconv.Itoa(i) + strconv.Itoa(n)) })
	is(t, "full", api.Last, 0, l, whole, elems("77"))
	is(t, "full", api.Last, 0, l, allBut, elems("67"))
	is(t, "full", api.Multi, 0, l, whole, elems("07", "17", "27", "37", "47", "57", "67", "77"))
	l = fullLogs(func(i, k, n int) api.Op { return []api.Op{on(), off()}[n%2] })
	is(t, "full", api.Flag, 1, l, whole, api.Value{})
	l = fullLogs(func(i, k, n int) api.Op { return inc(1 << 40) })
	is(t, "full", api.Counter, 7, l, whole, api.Value{N: 7 + 8*8*full<<40})
	is(t, "full", api.Bound, 7, l, allBut, api.Value{N: 7 + (8*8*full-8)<<40})
	if spent := time.Since(begin); spent > 20*time.Second {
		t.Errorf("it took %v", spent)
	}
}

// P10.1: several at one time.
func TestAtOneTime(t *testing.T) {
	l := goodLogs()
	want := callAll(l, cut.Size(l), key)
	done := make(chan bool)
	for range 8 {
		go func() {
			good := true
			for range 50 {
				good = good && slices.EqualFunc(callAll(l, cut.Size(l), key), want, same)
			}
			done <- good
		}()
	}
	for range 8 {
		if !<-done {
			t.Error("one of eight answered otherwise")
		}
	}
	if !txn.SameList(l[0], goodLogs()[0]) {
		t.Error("the logs were changed")
	}
}
