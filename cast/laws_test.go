package cast_test

import (
	"math/rand"
	"slices"
	"testing"

	"levee/api"
	"levee/cast"
	"levee/cut"
	"levee/txn"
)

// someLogs: logs that may be, of so many transactions in all, of the first members, and these as they came to be.
func someLogs(r *rand.Rand, members, n int) (l api.Logs, all []api.Txn) {
	for range n {
		x := someNext(r, l, r.Intn(members))
		l[x.Origin] = append(l[x.Origin], x)
		all = append(all, x)
	}
	return l, all
}

// someNext: a transaction that may come behind a member's log.
func someNext(r *rand.Rand, l api.Logs, member int) api.Txn {
	var deps api.Vector
	for j := range l {
		if r.Intn(3) == 0 {
			deps[j] = uint64(r.Intn(len(l[j]) + 1))
		} else if r.Intn(2) == 0 {
			deps[j] = uint64(len(l[j]))
		}
	}
	seq := uint64(len(l[member]) + 1)
	deps[member] = seq - 1
	x := at(member, seq, cut.Stamp(l, deps)+1+uint64(r.Intn(3)), deps)
	x.Ops[0].N = 1 + r.Int63n(1000)
	return x
}

// someSpoilt: the transaction, with something changed, after which it may still be, mostly.
func someSpoilt(r *rand.Rand, x api.Txn) api.Txn {
	by := []uint64{1, 1, 2, top}[r.Intn(4)] // a little up or down
	return with(x, func(x *api.Txn) {
		switch r.Intn(8) {
		case 0, 1:
			x.Stamp += by
		case 2, 3:
			x.Deps[r.Intn(8)] += by
		case 4:
			x.Seq += by
			x.Deps[x.Origin&7] += by // its Origin may be none already
		case 5, 6:
			x.Ops[0].N += int64(r.Intn(3))
		case 7:
			x.Origin = []int{-1, 8, r.Intn(8)}[r.Intn(3)]
		}
	})
}

// P13.1: Receive against the plain telling, of inboxes with anything in them.
func TestAsTold(t *testing.T) {
	r := rand.New(rand.NewSource(1))
	met := map[api.Errno]int{}
	got, gone, held, again := 0, 0, 0, 0
	for range 12000 {
		_, all := someLogs(r, 1+r.Intn(8), 2+r.Intn(14))
		in, x := someInbox(r, all)
		want, n, err := plainReceive(in, x)
		answers(t, "by chance", in, x, want, n, err)
		if t.Failed() {
			t.Fatalf("%+v to %+v", x, in)
		}
		met[err]++
		switch left := len(in.Wait) + 1 - len(want.Wait) - n; {
		case err != api.OK:
		case n > 2:
			got++
		case n == 0 && len(want.Wait) > len(in.Wait):
			held++
		case n == 0 && len(want.Wait) == len(in.Wait):
			again++
		case n > 0 && left > 0:
			gone++
		}
	}
	if min(got, gone, held, again) < 500 || min(met[api.ErrClash], met[api.ErrTxn]) < 300 || met[api.ErrFull] < 50 {
		t.Errorf("it delivered several %d times, let go %d times, held %d times, kept %d times, and answered %v", got, gone, held, again, met)
	}
}

// someInbox: what some of these made, some waiting, changed about and spoilt, and one of them that comes.
func someInbox(r *rand.Rand, all []api.Txn) (api.Inbox, api.Txn) {
	var in api.Inbox
	from := r.Intn(len(all))
	for _, x := range all[:from] {
		in.Logs[x.Origin] = append(in.Logs[x.Origin], x)
	}
	spoil := r.Intn(3)
	some := func() api.Txn {
		x := all[from+r.Intn(len(all)-from)]
		if r.Intn(8) == 0 {
			x = all[r.Intn(len(all))]
		}
		if r.Intn(4) < spoil {
			x = someSpoilt(r, x)
		}
		return x
	}
	size := r.Intn(12)
	if r.Intn(8) == 0 {
		size = most - 1 + r.Intn(4)
	}
	for range size {
		x := some()
		if _, err := cut.Add(in.Logs, x); err == api.ErrGap || spoil > 0 || size > 20 {
			in.Wait = append(in.Wait, x)
		}
	}
	if r.Intn(2) == 0 {
		slices.SortStableFunc(in.Wait, byNumber)
	}
	x := all[from]
	if r.Intn(2) == 0 {
		x = some()
	}
	if r.Intn(6) == 0 {
		x = someSpoilt(r, x)
	}
	return in, x
}

// delivers: all of these received in this order into nothing: Logs are these logs, and nothing waits; each step keeps what it must.
func delivers(t *testing.T, name string, l api.Logs, order []api.Txn) {
	t.Helper()
	var in api.Inbox
	for k, x := range order {
		next, n, err := cast.Receive(in, x)
		if err != api.OK || n != count(next.Logs)-count(in.Logs) {
			t.Fatalf("%s: number %d, %d.%d to %s: %s, %d, %v", name, k, x.Origin, x.Seq, shown(in), shown(next), n, err)
		}
		steps(t, name, in, next, x, order[:k+1])
		in = next
	}
	if !same(in, of(l)) {
		t.Fatalf("%s: %s; want %s", name, shown(in), shown(of(l)))
	}
}

// steps: Logs may be logs, begin with what they were, and have nothing that didn't come in; what waits misses something, and stands by Origin and Seq.
func steps(t *testing.T, name string, was, now api.Inbox, x api.Txn, came []api.Txn) {
	t.Helper()
	if err := cut.Check(now.Logs); err != api.OK {
		t.Fatalf("%s: behind %d.%d Logs may not be: %v", name, x.Origin, x.Seq, err)
	}
	cameIn := func(x api.Txn) bool {
		return slices.ContainsFunc(came, func(y api.Txn) bool { return txn.Same(x, y) })
	}
	for i, log := range now.Logs {
		if len(log) < len(was.Logs[i]) || !txn.SameList(log[:len(was.Logs[i])], was.Logs[i]) {
			t.Fatalf("%s: behind %d.%d the log of %d isn't what it was, and more", name, x.Origin, x.Seq, i)
		}
		for _, y := range log[len(was.Logs[i]):] {
			if !cameIn(y) {
				t.Fatalf("%s: behind %d.%d Logs have %+v, which didn't come in", name, x.Origin, x.Seq, y)
			}
		}
	}
	for k, y := range now.Wait {
		if _, err := cut.Add(now.Logs, y); err != api.ErrGap || !cameIn(y) {
			t.Fatalf("%s: behind %d.%d there waits %+v: %v", name, x.Origin, x.Seq, y, err)
		}
		if k > 0 && byNumber(now.Wait[k-1], y) >= 0 {
			t.Fatalf("%s: behind %d.%d there wait %s", name, x.Origin, x.Seq, shown(now))
		}
	}
}

// P13.2, P13.3: forwards, backwards and by chance, each once.
func TestWhateverTheOrder(t *testing.T) {
	r := rand.New(rand.NewSource(2))
	for k := range 100 {
		n := 1 + r.Intn(most)
		if k%4 == 0 {
			n = most
		}
		l, all := someLogs(r, 1+r.Intn(8), n)
		if err := cut.Check(l); err != api.OK {
			t.Fatal("Check of some logs:", err)
		}
		delivers(t, "forwards", l, all)
		delivers(t, "in the order of chapter 9", l, cut.Order(l, cut.Size(l)))
		back := slices.Clone(all)
		slices.Reverse(back)
		delivers(t, "backwards", l, back)
		for range 4 {
			r.Shuffle(n, func(i, j int) { all[i], all[j] = all[j], all[i] })
			delivers(t, "by chance", l, all)
		}
	}
}

// P13.2, P13.3: some come more than once: at once, later, and after they were delivered.
func TestAnyNumberOfTimes(t *testing.T) {
	r := rand.New(rand.NewSource(3))
	for range 60 {
		l, all := someLogs(r, 2+r.Intn(7), 1+r.Intn(most))
		order := slices.Clone(all)
		slices.Reverse(order)
		if r.Intn(3) > 0 {
			r.Shuffle(len(order), func(i, j int) { order[i], order[j] = order[j], order[i] })
		}
		for range r.Intn(3 * len(order)) {
			x, place := order[r.Intn(len(order))], r.Intn(len(order)+1)
			order = slices.Insert(order, place, x)
		}
		delivers(t, "more than once", l, order)
		delivers(t, "all of it twice", l, slices.Concat(order, order))
		var twice []api.Txn
		for _, x := range order {
			twice = append(twice, x, x)
		}
		delivers(t, "each twice at once", l, twice)
	}
}

// P13.2: as many as may wait, of which the first one comes last.
func TestAllWait(t *testing.T) {
	for _, members := range [][]int{{0}, {7, 0}, {0, 1, 2, 3, 4, 5, 6, 7}, {7, 6, 5, 4, 3, 2, 1, 0}, {2, 5, 2, 0}} {
		for _, n := range []int{most, most + 1} { // the first one of 65 never waits
			l, all := chain(n, members...)
			delivers(t, "a chain", l, append(slices.Clone(all[1:]), all[0]))
			back := slices.Clone(all)
			slices.Reverse(back)
			delivers(t, "a chain, backwards", l, back)
			delivers(t, "a chain, backwards, twice", l, slices.Concat(back[:n-1], back[:n-1], back, back))
		}
	}
}

// P13.3: whatever comes in, also unlike ones of one number and such that may not be: at every moment Logs may be logs, of what came in.
func TestNothingEarly(t *testing.T) {
	r := rand.New(rand.NewSource(4))
	met := map[api.Errno]int{}
	for range 200 {
		_, all := someLogs(r, 1+r.Intn(8), 10+r.Intn(90))
		var in api.Inbox
		var came []api.Txn
		for range 150 {
			x := all[r.Intn(len(all))]
			if r.Intn(3) == 0 {
				x = someSpoilt(r, x)
			}
			came = append(came, x)
			next, n, err := cast.Receive(in, x)
			met[err]++
			if err != api.OK {
				refuses(t, "by chance", in, x, err)
				continue
			}
			if n != count(next.Logs)-count(in.Logs) {
				t.Fatalf("the number %d of %s, behind %s", n, shown(next), shown(in))
			}
			steps(t, "by chance", in, next, x, came)
			in = next
		}
	}
	if min(met[api.ErrClash], met[api.ErrTxn]) < 500 || met[api.ErrFull] == 0 {
		t.Errorf("it answered %v", met)
	}
}
