package cut_test

import (
	"math/rand"
	"slices"
	"testing"

	"levee/api"
	"levee/cut"
	"levee/txn"
	"levee/vec"
)

// someLogs: logs that may be, of so many transactions in all, of the first members; what they depend on is closed by chance alone.
func someLogs(r *rand.Rand, members, n int) api.Logs {
	var l api.Logs
	for range n {
		i := r.Intn(members)
		l[i] = append(l[i], someNext(r, l, i))
	}
	return l
}

// someNext: a transaction that may come behind a member's log.
func someNext(r *rand.Rand, l api.Logs, member int) api.Txn {
	var deps api.Vector
	for j := range l {
		if r.Intn(3) == 0 {
			deps[j] = uint64(r.Intn(len(l[j]) + 1))
		}
	}
	seq := uint64(len(l[member]) + 1)
	deps[member] = seq - 1
	x := at(member, seq, plainStamp(l, deps)+1+uint64(r.Intn(3)), deps)
	x.Ops[0].N = 1 + r.Int63n(1000)
	for range r.Intn(3) {
		x.Ops = append(x.Ops, api.Op{Kind: api.Add, Key: "s/1", Elem: string(rune('a' + r.Intn(26)))})
	}
	return x
}

// someCut: within the logs, at their ends or beyond them.
func someCut(r *rand.Rand, l api.Logs) api.Vector {
	v := plainSize(l)
	for i := range v {
		switch r.Intn(8) {
		case 0:
			v[i] += uint64(r.Intn(3))
		case 1:
			v[i] = []uint64{0, top, 1 << 63, 1 << 32}[r.Intn(4)]
		case 2, 3, 4:
			v[i] = uint64(r.Intn(int(v[i] + 1)))
		}
	}
	return v
}

// someSpoilt: the logs with something changed, after which they may not be, mostly.
func someSpoilt(r *rand.Rand, l api.Logs) api.Logs {
	i := r.Intn(8)
	if len(l[i]) == 0 {
		return l
	}
	k, j := r.Intn(len(l[i])), r.Intn(8)
	switch r.Intn(7) {
	case 0: // one is taken out
		return with(l, i, slices.Delete(slices.Clone(l[i]), k, k+1)...)
	case 1: // one comes twice
		return with(l, i, slices.Insert(slices.Clone(l[i]), k, l[i][k])...)
	case 2: // two logs change places
		l[i], l[j] = l[j], l[i]
		return l
	}
	return changed(l, i, k, func(x *api.Txn) { someSpoil(r, x) })
}

func someSpoil(r *rand.Rand, x *api.Txn) {
	by := []uint64{1, 2, top, top - 1}[r.Intn(4)] // a little up or down
	switch r.Intn(8) {
	case 0:
		x.Origin = []int{-1, 8, r.Intn(8)}[r.Intn(3)]
	case 1:
		x.Seq += by
	case 2, 3:
		x.Stamp += by
	case 4, 5:
		x.Deps[r.Intn(8)] += by
	case 6:
		x.Ops[0].N = int64(r.Intn(3))
	case 7:
		x.Deps[r.Intn(8)] = []uint64{top, 0, 1 << 63}[r.Intn(3)]
	}
}

// P9.1: each call against the plain telling, of logs that may be and of such that may not be.
func TestAsTold(t *testing.T) {
	r := rand.New(rand.NewSource(1))
	met := map[api.Errno]int{}
	for range 6000 {
		l := someLogs(r, 1+r.Intn(8), r.Intn(16))
		for range r.Intn(6) {
			l = someSpoilt(r, l)
		}
		err := plainCheck(l)
		met[err]++
		checks(t, "by chance", l, err)
		if cut.Size(l) != plainSize(l) || !sameLogs(cut.Copy(l), l) {
			t.Fatalf("Size, Copy of %+v: %v, %+v", l, cut.Size(l), cut.Copy(l))
		}
		for range 4 {
			asTold(t, r, l, someCut(r, l))
		}
		if t.Failed() {
			t.Fatalf("of %+v", l)
		}
	}
	if len(met) != 3 || met[api.OK] < 1000 || met[api.ErrGap] < 500 || met[api.ErrTxn] < 1000 {
		t.Errorf("Check's answers were %v", met)
	}
}

// asTold: the calls that take a cut.
func asTold(t *testing.T, r *rand.Rand, l api.Logs, v api.Vector) {
	t.Helper()
	if got := cut.Stamp(l, v); got != plainStamp(l, v) {
		t.Errorf("Stamp of %v: %d", v, got)
	}
	if got := cut.Closed(l, v); got != plainClosed(l, v) {
		t.Errorf("Closed of %v: %v", v, got)
	}
	lists(t, "Order", cut.Order(l, v), plainOrder(l, v))
	most := r.Intn(16) - 1
	lists(t, "Missing", cut.Missing(l, v, most), plainMissing(l, v, most))
}

// P9.1: Add of ones that fit, or nearly, to logs that may be and to such that may not be.
func TestAddAsTold(t *testing.T) {
	r := rand.New(rand.NewSource(2))
	met := map[api.Errno]int{}
	for range 20000 {
		l := someLogs(r, 1+r.Intn(8), r.Intn(12))
		i := r.Intn(8)
		x := someNext(r, l, i)
		if len(l[i]) > 0 && r.Intn(3) == 0 {
			x = txn.Copy(l[i][r.Intn(len(l[i]))])
		}
		if r.Intn(2) == 0 {
			someSpoil(r, &x)
		}
		if r.Intn(3) == 0 {
			x.Deps[i], x.Seq = x.Deps[i]+1, x.Seq+1
		}
		if r.Intn(3) == 0 {
			l = someSpoilt(r, l)
		}
		want, err := plainAdd(l, x)
		met[err]++
		adds(t, "by chance", l, x, want, err)
		if t.Failed() {
			t.Fatalf("to %+v", l)
		}
	}
	if len(met) != 4 || min(met[api.OK], met[api.ErrTxn], met[api.ErrClash], met[api.ErrGap]) < 500 {
		t.Errorf("Add's answers were %v", met)
	}
}

// P9.2: Close against a plain search of all cuts; Join and Meet of closed cuts are closed.
func TestCloseAsTold(t *testing.T) {
	r := rand.New(rand.NewSource(3))
	between, spoilt := 0, 0
	for range 4000 {
		l := someLogs(r, 2+r.Intn(7), r.Intn(11))
		for range r.Intn(3) {
			l = someSpoilt(r, l)
		}
		if plainCheck(l) != api.OK {
			spoilt++
		}
		v := someCut(r, l)
		closed := closedCuts(l, v)
		got := cut.Close(l, v)
		if !slices.Contains(closed, got) || !cut.Closed(l, got) || !vec.Leq(got, v) {
			t.Fatalf("Close of %v: %v of %+v", v, got, l)
		}
		for _, c := range closed {
			if !vec.Leq(c, got) || !cut.Closed(l, c) {
				t.Fatalf("Close of %v: %v, though %v is closed, of %+v", v, got, c, l)
			}
			if d := closed[r.Intn(len(closed))]; !cut.Closed(l, vec.Join(c, d)) || !cut.Closed(l, vec.Meet(c, d)) {
				t.Fatalf("Join or Meet of %v and %v isn't closed, of %+v", c, d, l)
			}
		}
		if w := vec.Meet(v, plainSize(l)); got != w && got != (api.Vector{}) {
			between++
		}
		if again := cut.Close(l, got); again != got {
			t.Fatalf("Close of %v, which is closed: %v", got, again)
		}
	}
	if between < 300 || spoilt < 200 {
		t.Errorf("%d were closed between nothing and all, %d of logs that may not be", between, spoilt)
	}
}

// P9.3: each transaction of the cut once, and behind all that it depends on.
func TestOrderLaw(t *testing.T) {
	r := rand.New(rand.NewSource(4))
	for range 400 {
		l := someLogs(r, 1+r.Intn(8), r.Intn(60))
		for _, v := range []api.Vector{plainSize(l), cut.Close(l, someCut(r, l))} {
			var seen api.Vector // of each member they come from number 1 on
			for _, x := range cut.Order(l, v) {
				if !vec.Leq(x.Deps, seen) || x.Seq != seen[x.Origin]+1 || !txn.Same(x, l[x.Origin][x.Seq-1]) {
					t.Fatalf("Order of %v: behind %v comes %+v", v, seen, x)
				}
				seen[x.Origin]++
			}
			if seen != v {
				t.Fatalf("Order of %v: it has %v", v, seen)
			}
		}
	}
}

// P9.4: Join of two closed cuts' logs is the logs of both cuts' Join, either way round.
func TestJoinLaw(t *testing.T) {
	r := rand.New(rand.NewSource(6))
	unlike := 0
	for range 1500 {
		l := someLogs(r, 1+r.Intn(8), r.Intn(30))
		v, w := cut.Close(l, someCut(r, l)), cut.Close(l, someCut(r, l))
		if vec.Order(v, w) == 2 {
			unlike++
		}
		a, b := within(l, v), within(l, w)
		checks(t, "a closed cut", a, api.OK)
		joins(t, "two closed cuts", a, b, within(l, vec.Join(v, w)), api.OK)
		joins(t, "two closed cuts, the other way round", b, a, within(l, vec.Join(v, w)), api.OK)
		both, _ := cut.Join(a, b)
		checks(t, "Join", both, api.OK)
		joins(t, "with what it holds", both, a, both, api.OK)
		joins(t, "with what it holds", b, both, both, api.OK)
	}
	if unlike < 300 {
		t.Errorf("%d times both cuts had something of their own", unlike)
	}
}

// P9.4: Join of logs that went on by themselves, and may clash.
func TestJoinAsTold(t *testing.T) {
	r := rand.New(rand.NewSource(7))
	met := map[api.Errno]int{}
	for range 6000 {
		a := someLogs(r, 1+r.Intn(4), r.Intn(10))
		b := within(a, cut.Close(a, someCut(r, a)))
		for range r.Intn(3) {
			i := r.Intn(8)
			b[i] = append(slices.Clone(b[i]), someNext(r, b, i))
		}
		if r.Intn(5) == 0 {
			a = someSpoilt(r, a)
		}
		if r.Intn(5) == 0 {
			b = someSpoilt(r, b)
		}
		for range 2 {
			want, err := plainJoin(a, b)
			met[err]++
			joins(t, "by chance", a, b, want, err)
			if err == api.OK {
				checks(t, "what it answers", want, api.OK)
			}
			a, b = b, a
		}
		if t.Failed() {
			t.Fatalf("of %+v and %+v", a, b)
		}
	}
	if len(met) != 4 || min(met[api.OK], met[api.ErrClash]) < 500 || min(met[api.ErrTxn], met[api.ErrGap]) < 100 {
		t.Errorf("Join's answers were %v", met)
	}
}

// P9.5: logs come out again by Add in Order; Missing tells the same ones.
func TestStepByStep(t *testing.T) {
	r := rand.New(rand.NewSource(8))
	for n := range 80 {
		l := someLogs(r, 1+r.Intn(8), n)
		var got api.Logs
		for k, x := range cut.Order(l, cut.Size(l)) {
			if left := cut.Missing(l, cut.Size(got), full); len(left) != n-k || !txn.Same(left[0], x) {
				t.Fatalf("Missing behind %d: %+v; want %+v first", k, left, x)
			}
			next, err := cut.Add(got, x)
			if err != api.OK || cut.Check(next) != api.OK {
				t.Fatalf("Add of %+v: %v, %v", x, err, cut.Check(next))
			}
			adds(t, "once more", next, x, next, api.OK)
			got = next
		}
		if !sameLogs(got, l) {
			t.Fatalf("%+v came out as %+v", l, got)
		}
	}
}

// P9.5: logs with as many transactions as they may have.
func TestFullStepByStep(t *testing.T) {
	l := api.Logs{2: alone(2, full), 5: alone(5, 3)}
	l[5][1].Deps[2], l[5][1].Stamp, l[5][2].Stamp = full, full+1, full+2
	checks(t, "a full log", l, api.OK)
	var got api.Logs
	for _, x := range cut.Order(l, all(top)) {
		next, err := cut.Add(got, x)
		if err != api.OK {
			t.Fatalf("Add of %d.%d: %v", x.Origin, x.Seq, err)
		}
		got = next
	}
	if !sameLogs(got, l) {
		t.Errorf("sizes %v came out as %v", cut.Size(l), cut.Size(got))
	}
}

// every: logs that may be, of all members.
func every() api.Logs {
	l := grid()
	for i := 5; i < len(l); i++ {
		l[i] = alone(i, 2)
	}
	return l
}

// callAll: every call, whose answers are the lists that come back.
func callAll(a, b api.Logs, x api.Txn, v api.Vector) [][]api.Txn {
	cut.Size(a)
	cut.Stamp(a, v)
	cut.Check(a)
	cut.Closed(a, v)
	cut.Close(a, v)
	out := [][]api.Txn{cut.Order(a, v), cut.Missing(a, api.Vector{}, 4)}
	add, _ := cut.Add(a, x)
	there, _ := cut.Add(b, b[1][0])
	join, _ := cut.Join(a, b)
	itself, _ := cut.Join(a, a)
	nothing, _ := cut.Join(api.Logs{}, b)
	for _, l := range []api.Logs{add, there, join, itself, nothing, cut.Copy(a)} {
		out = append(out, l[:]...)
	}
	return out
}

// cloned: the lists as memory that nothing else has.
func cloned(lists [][]api.Txn) [][]api.Txn {
	out := make([][]api.Txn, len(lists))
	for i, l := range lists {
		for _, x := range l {
			out[i] = append(out[i], txn.Copy(x))
		}
	}
	return out
}

// P9.1: what is handed in stays as it is, its spare room too, and nothing of it is kept.
func TestHandedIn(t *testing.T) {
	l := every()
	w := within(l, api.Vector{2, 2, 2, 2, 2, 0, 1, 2})
	wrong := spoilt(l, faults()[6], 1, 1)
	x := at(0, 6, 60, api.Vector{0, 1})
	clash := changed(l, 1, 0, func(y *api.Txn) { y.Ops[0].N++ })
	for _, k := range []struct{ a, b api.Logs }{{l, l}, {l, w}, {w, l}, {wrong, l}, {l, wrong}, {l, clash}} {
		var m room
		a, b, y := m.logs(k.a), m.logs(k.b), m.txn(x)
		want := cloned(callAll(k.a, k.b, x, all(3)))
		got := callAll(a, b, y, all(3))
		if !sameLogs(a, k.a) || !sameLogs(b, k.b) || !txn.Same(y, x) {
			t.Error("what was handed in was changed")
		}
		if !spareKept(a) || !spareKept(b) || !opsKept(y) {
			t.Error("the spare room of what was handed in was changed")
		}
		m.change()
		for i := range a {
			wipe(a[i])
			wipe(b[i])
		}
		wipe([]api.Txn{y})
		for i := range want {
			lists(t, "an answer behind which all that was handed in was changed", got[i], want[i])
		}
	}
}

// P9.1: answers are new memory: no list of them shares any with what was handed in, or with another list of theirs.
func TestNewMemory(t *testing.T) {
	l, b := every(), every()
	wantL := cut.Copy(l)
	x := at(0, 6, 60, api.Vector{0, 1})
	got := callAll(l, b, x, all(3))
	want := cloned(got)
	for i := range got {
		for k := range got[i] {
			clear(got[i][k].Ops[:cap(got[i][k].Ops)])
			for n := k + 1; n < len(got[i]); n++ {
				if !txn.Same(got[i][n], want[i][n]) {
					t.Fatalf("of answer %d number %d was changed by number %d", i, n, k)
				}
			}
		}
		wipe(got[i])
		for n := i + 1; n < len(got); n++ {
			lists(t, "an answer behind which another one was changed", got[n], want[n])
		}
	}
	if !sameLogs(l, wantL) || !sameLogs(b, wantL) || !txn.Same(x, at(0, 6, 60, api.Vector{0, 1})) {
		t.Error("what was handed in was changed by the answers")
	}
}

// P9.1: several at one time.
func TestAtOneTime(t *testing.T) {
	l, x := every(), at(0, 6, 60, api.Vector{0, 1})
	want := cloned(callAll(l, l, x, all(3)))
	done := make(chan bool)
	for range 8 {
		go func() {
			good := true
			for range 50 {
				good = good && slices.EqualFunc(callAll(l, l, x, all(3)), want, txn.SameList)
			}
			done <- good
		}()
	}
	for range 8 {
		if !<-done {
			t.Error("one of eight answered otherwise")
		}
	}
}
