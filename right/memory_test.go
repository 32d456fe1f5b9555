package right_test

import (
	"math/rand"
	"slices"
	"testing"

	"levee/api"
	"levee/cut"
	"levee/right"
	"levee/txn"
)

// An answer is all that the calls answer for some rules, grants, logs, a member, its operations, a key and a cut.
type answer struct {
	units, slack                int64
	x                           api.Txn
	unitsErr, makeErr, slackErr api.Errno
}

// ask: all calls.
func (a asking) ask() answer {
	var got answer
	got.units, got.unitsErr = right.Units(a.rules, a.grants, a.l, a.member, a.key)
	got.x, got.makeErr = right.Make(a.rules, a.grants, a.l, a.member, a.ops)
	got.slack, got.slackErr = right.Slack(a.rules, a.l, a.v, a.key)
	return got
}

// alike: the same answers?
func alike(a, b answer) bool {
	return a.units == b.units && a.slack == b.slack && txn.Same(a.x, b.x) && a.unitsErr == b.unitsErr && a.makeErr == b.makeErr && a.slackErr == b.slackErr
}

// someAsking: an asking by chance, mostly one that is answered.
func someAsking(r *rand.Rand) asking {
	members := 1 + r.Intn(8)
	a := asking{rules: every(), grants: someGrants(r, members), l: someLogs(r, members, r.Intn(10)), member: r.Intn(members), key: one(r, "b", "d", "b", "c", "k")}
	a.ops = someOps(r, a.member)
	if r.Intn(2) == 0 {
		a.ops = append(ops(inc("b", 1000), inc("d", 1000)), a.ops...)
	}
	a.v = cut.Close(a.l, api.Vector{9, 1, 9, 9, 2, 9, 9, 9})
	if r.Intn(8) == 0 {
		one(r, slices.Concat(grantFaults()[:1], opFaults())...).spoil(&a)
	}
	return a
}

// P15.1: what is handed in stays as it is, its spare room too, and nothing of it is kept.
func TestHandedIn(t *testing.T) {
	r := rand.New(rand.NewSource(1))
	met := 0
	for range 3000 {
		a := someAsking(r)
		want := a.ask()
		var m room
		given := asking{m.rules(a.rules), m.grants(a.grants), m.logs(a.l), a.member, m.text(a.key), m.ops(a.ops), a.v}
		got := given.ask()
		if !slices.Equal(given.rules, a.rules) || !slices.Equal(given.grants, a.grants) || !sameLogs(given.l, a.l) || !slices.Equal(given.ops, a.ops) || given.key != a.key {
			t.Fatal("what was handed in was changed")
		}
		if !rulesKept(given.rules) || !grantsKept(given.grants) || !logsKept(given.l) || !opsKept(given.ops) {
			t.Fatal("the spare room of what was handed in was changed")
		}
		m.change()
		clear(given.rules)
		clear(given.grants)
		clear(given.ops)
		for _, log := range given.l {
			for _, x := range log {
				clear(x.Ops)
			}
			clear(log)
		}
		if !alike(got, want) {
			t.Fatalf("behind a change of what was handed in: %+v; want %+v", got, want)
		}
		if got.makeErr == api.OK {
			met++
		}
	}
	if met < 1000 {
		t.Errorf("%d were made", met)
	}
}

// P15.1: what Make answers is its caller's own, its spare room too.
func TestNewMemory(t *testing.T) {
	a := goodAsking()
	a.ops = append(make([]api.Op, 0, 8), a.ops...)
	first, second := a.ask(), a.ask()
	clear(first.x.Ops[:cap(first.x.Ops)])
	if !alike(second, goodAsking().ask()) || !slices.Equal(a.ops, goodAsking().ops) || !sameLogs(a.l, goodLogs()) {
		t.Error("a change of an answer is seen elsewhere")
	}
	l, _ := cut.Add(a.l, second.x)
	third, _ := right.Make(a.rules, a.grants, l, a.member, ops(dec("b", 7)))
	clear(second.x.Ops)
	if cut.Check(l) != api.OK || !txn.Same(third, made(t, "once more", a.rules, a.grants, l, a.member, ops(dec("b", 7)))) {
		t.Error("a change of an answer is seen behind it")
	}
}

// P15.1: a call hangs on its arguments alone, and several may be made at one time.
func TestAtOneTime(t *testing.T) {
	a := goodAsking()
	want := a.ask()
	done := make(chan bool)
	for range 8 {
		go func() {
			good := true
			for range 200 {
				good = good && alike(a.ask(), want)
			}
			done <- good
		}()
	}
	for range 8 {
		if !<-done {
			t.Error("one of eight answered otherwise")
		}
	}
}

// P15.1: anything may be handed in: each call ends, none panics, and beside an error there is nothing.
func TestAnything(t *testing.T) {
	r := rand.New(rand.NewSource(2))
	number := func() int64 {
		return one(r, 0, 1, -1, 3, 8, 1<<32+3, most, 1<<63-1, -1<<63, int64(r.Uint64()))
	}
	text := func() string { return one(r, "", "b", "s", "i", "x y", "\x00\xff", "2", "10") }
	for range 6000 {
		a := asking{member: int(number()), key: text(), ops: someOps(r, 2)}
		if r.Intn(2) == 0 {
			a.rules = every()
		}
		for range r.Intn(4) {
			a.rules = append(a.rules, api.Rule{Kind: one(r, int(number()), r.Intn(12)), Key: text(), Other: text(), Min: one(r, 0, number()), Start: one(r, 0, number())})
			a.grants = append(a.grants, grant(text(), int(number()), number()))
			a.ops = append(a.ops, api.Op{Kind: one(r, int(number()), r.Intn(10)), Key: text(), Elem: text(), N: number()})
		}
		for range r.Intn(3) {
			i := r.Intn(8)
			a.l[i] = append(a.l[i], api.Txn{Origin: int(number()), Seq: uint64(number()), Stamp: uint64(number()), Deps: all(uint64(number())), Ops: a.ops})
			a.v[i] = uint64(number())
		}
		var want answer
		want.units, want.unitsErr = plainUnits(a.rules, a.grants, a.l, a.member, a.key)
		want.x, want.makeErr = plainMake(a.rules, a.grants, a.l, a.member, a.ops)
		want.slack, want.slackErr = plainSlack(a.rules, a.l, a.v, a.key)
		if got := a.ask(); !alike(got, want) {
			t.Fatalf("%+v: %+v, want %+v", a, got, want)
		}
	}
}
