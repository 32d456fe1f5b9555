package cast_test

import (
	"slices"
	"testing"

	"levee/api"
	"levee/cast"
	"levee/txn"
)

// anything: an inbox with all that a list may hold.
func anything() api.Inbox {
	l, all := chain(9, 0, 3, 5)
	l[7] = []api.Txn{{Origin: -3, Seq: top, Deps: one(2, top)}, {Ops: []api.Op{{Kind: -1, Key: "A B", Elem: "\x00\xff", N: -1}, {}}}}
	return of(l, all[4], api.Txn{}, all[4], api.Txn{Origin: 99, Stamp: 7, Ops: []api.Op{{Elem: "x"}}}, early(6, 2))
}

// P13.1: Copy of nothing, and of anything.
func TestCopy(t *testing.T) {
	var empty api.Inbox
	for i := range empty.Logs {
		empty.Logs[i] = []api.Txn{}
	}
	empty.Wait = []api.Txn{}
	for _, in := range []api.Inbox{{}, empty} {
		if got := cast.Copy(in); !same(got, api.Inbox{}) {
			t.Error("of nothing:", shown(got))
		}
	}
	for i := range api.MaxMembers {
		in := api.Inbox{}
		in.Logs[i] = alone(i, 3)
		if got := cast.Copy(in); !same(got, in) {
			t.Errorf("of member %d's log: %s", i, shown(got))
		}
	}
	long := of(api.Logs{4: alone(4, full+2)}, slices.Concat(waiting(100), waiting(3))...)
	for _, in := range []api.Inbox{anything(), long, of(api.Logs{}, early(1, 1)), of(api.Logs{2: {{}}})} {
		if got := cast.Copy(in); !same(got, in) {
			t.Errorf("Copy of %s: %s", shown(in), shown(got))
		}
	}
}

// A call is one to Receive, by what Receive does.
type call struct {
	name string
	in   api.Inbox
	x    api.Txn
}

func calls() []call {
	l, all := chain(9, 0, 3, 5)
	first := all[0]
	on := early(6, 4)
	back := slices.Clone(all[1:])
	slices.Reverse(back)
	return []call{
		{"it comes in", of(l, on), at(1, 1, 1, api.Vector{})},
		{"it comes in, nothing waits", of(l), at(0, 4, 50, api.Vector{})},
		{"to nothing", api.Inbox{}, first},
		{"it lets in others, some stay", of(api.Logs{}, append(back, on, next(on))...), first},
		{"some are let go", of(api.Logs{}, unlike(first), on, all[1], all[1], api.Txn{}, next(on)), first},
		{"it is there", of(l, on, all[3], next(on)), all[4]},
		{"it waits at the first place", of(l, on, next(on)), early(4, 4)},
		{"it waits in the middle", of(l, early(4, 4), on), early(5, 9)},
		{"it waits at the last place", of(l, early(4, 4), on), next(on)},
		{"it waits, to nothing", api.Inbox{}, on},
		{"it waits already", of(l, early(4, 4), on, next(on)), on},
		{"a clash", of(l, on), unlike(all[4])},
		{"a clash with what waits", of(l, early(4, 4), on), unlike(on)},
		{"it may not be", of(l, on), api.Txn{Ops: first.Ops}},
		{"no room", of(l, waiting(most)...), early(0, 1)},
		{"an early stamp", of(l, on), at(1, 1, 1, one(0, 1))},
	}
}

// P13.1: what is handed in stays as it is, its spare room too, and nothing of it is kept.
func TestHandedIn(t *testing.T) {
	for _, k := range calls() {
		want, wantN, wantErr := plainReceive(k.in, k.x)
		want = cloned(want)
		wantCopy := cloned(k.in)
		var m room
		in, x := m.inbox(k.in), m.txn(k.x)
		got, n, err := cast.Receive(in, x)
		gotCopy := cast.Copy(in)
		if !same(in, k.in) || !txn.Same(x, k.x) {
			t.Errorf("%s: what was handed in was changed", k.name)
		}
		if !spareKept(in) || !opsKept(x) {
			t.Errorf("%s: the spare room of what was handed in was changed", k.name)
		}
		m.change()
		wipe(in)
		wipe(of(api.Logs{}, x))
		if !same(got, want) || n != wantN || err != wantErr {
			t.Errorf("%s: behind a change of what was handed in the answer is %s, %d, %v; want %s, %d, %v", k.name, shown(got), n, err, shown(want), wantN, wantErr)
		}
		if !same(gotCopy, wantCopy) {
			t.Errorf("%s: behind a change of what was handed in the copy is %s; want %s", k.name, shown(gotCopy), shown(wantCopy))
		}
	}
}

// P13.1: answers are new memory: they share none with what was handed in, and no list of one shares any with another list of it.
func TestNewMemory(t *testing.T) {
	for _, k := range calls() {
		in, x := cloned(k.in), txn.Copy(k.x)
		got, _, _ := cast.Receive(in, x)
		for _, out := range []api.Inbox{got, cast.Copy(in)} {
			apart(t, k.name, out)
			wipe(out)
			if !same(in, k.in) || !txn.Same(x, k.x) {
				t.Fatalf("%s: what was handed in was changed by the answer", k.name)
			}
		}
	}
	apart(t, "a copy of anything", cast.Copy(anything()))
}

// apart: a change of one list of the inbox is not to be seen in another one.
func apart(t *testing.T, name string, in api.Inbox) {
	t.Helper()
	was := cloned(in)
	lists, wasLists := listsOf(in), listsOf(was)
	var flat, wasFlat []api.Txn
	for i := range lists {
		flat, wasFlat = append(flat, lists[i]...), append(wasFlat, wasLists[i]...)
	}
	for i := range flat {
		for k := range flat[i].Ops {
			flat[i].Ops[k] = spareOp
		}
		_ = append(flat[i].Ops, spareOp, spareOp)
		for k := i + 1; k < len(flat); k++ {
			if !txn.Same(flat[k], wasFlat[k]) {
				t.Fatalf("%s: operations of %d.%d were changed by those of %d.%d", name, flat[k].Origin, flat[k].Seq, flat[i].Origin, flat[i].Seq)
			}
		}
	}
	for i := range lists {
		for k := range lists[i] {
			lists[i][k] = spareTxn
		}
		_ = append(lists[i], spareTxn, spareTxn)
		for k := i + 1; k < len(lists); k++ {
			for n := range lists[k] {
				if lists[k][n].Origin != wasLists[k][n].Origin || lists[k][n].Seq != wasLists[k][n].Seq {
					t.Fatalf("%s: list %d was changed by list %d", name, k, i)
				}
			}
		}
	}
}

// P13.1: several at one time.
func TestAtOneTime(t *testing.T) {
	all := calls()
	done := make(chan bool)
	for range 8 {
		go func() {
			good := true
			for range 20 {
				for _, k := range all {
					want, wantN, wantErr := plainReceive(k.in, k.x)
					got, n, err := cast.Receive(k.in, k.x)
					good = good && same(got, want) && n == wantN && err == wantErr && same(cast.Copy(k.in), k.in)
				}
			}
			done <- good
		}()
	}
	for range 8 {
		if !<-done {
			t.Error("one of eight answered otherwise")
		}
	}
}
