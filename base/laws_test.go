package base_test

import (
	"fmt"
	"math/rand"
	"slices"
	"strconv"
	"testing"
	"time"

	"levee/api"
	"levee/base"
	"levee/cut"
	"levee/value"
	"levee/vec"
)

// P12.1: Fold and Read against the plain tellings, of bases with anything in them, any rules and any cuts.
func TestAsTold(t *testing.T) {
	r := rand.New(rand.NewSource(1))
	folds, reads := map[api.Errno]int{}, map[api.Errno]int{}
	for range 12000 {
		b, rules := someBase(r), someRules(r)
		v := someCut(r, b)
		got, err := base.Fold(b, rules, v)
		want, wantErr := plainFold(b, rules, v)
		folds[wantErr]++
		if !sameBase(got, want) || err != wantErr {
			t.Fatalf("Fold of %s\nto %v by %s\n: %s, %v\nwant %s, %v", shown(b), v, short(rules), shown(got), err, shown(want), wantErr)
		}
		if err == api.OK && base.Size(got) != base.Size(b) {
			t.Fatalf("Fold to %v made the size %v of %v", v, base.Size(got), base.Size(b))
		}
		for n := range 10 {
			got, err := base.Read(b, rules, v, keyOf(n))
			want, wantErr := plainRead(b, rules, v, keyOf(n))
			reads[wantErr]++
			if !same(got, want) || err != wantErr {
				t.Fatalf("Read of %q at %v of %s\nby %s\n: %v, %v\nwant %v, %v", keyOf(n), v, shown(b), short(rules), got, err, want, wantErr)
			}
		}
	}
	for _, err := range []api.Errno{api.OK, api.ErrOld, api.ErrOpen, api.ErrKind, api.ErrTxn} {
		if folds[err] < 100 || reads[err] < 100 {
			t.Errorf("Fold's answers were %v, Read's %v", folds, reads)
		}
	}
}

// P12.1: bases, rules and keys that are handed in stay as they are, their spare room too; answers are new memory.
func TestHandedIn(t *testing.T) {
	r := rand.New(rand.NewSource(2))
	for range 4000 {
		b, rules := someBase(r), someRules(r)
		v, key := someCut(r, b), keyOf(1+r.Intn(8))
		want, wantErr := plainFold(b, rules, v)
		wantValue, wantReadErr := plainRead(b, rules, v, key)
		var m room
		given, givenRules, givenKey := m.base(b), m.rules(rules), m.text(key)
		got, err := base.Fold(given, givenRules, v)
		read, readErr := base.Read(given, givenRules, v, givenKey)
		if !sameBase(given, b) || !spareKept(given) || !sameRules(givenRules, rules) || behindIt(givenRules) != spareRule || givenKey != key {
			t.Fatalf("Fold or Read changed %s to %s, %v to %v", shown(b), shown(given), rules, givenRules)
		}
		m.change()
		wreck(given)
		fill(givenRules, api.Rule{Kind: 3, Key: "!"})
		if !sameBase(got, want) || err != wantErr || !same(read, wantValue) || readErr != wantReadErr {
			t.Fatalf("Fold or Read kept what it was handed: %s, %v, %v, %v; want %s, %v", shown(got), err, read, readErr, shown(want), wantValue)
		}
		given, givenRules = m.base(b), m.rules(rules)
		got, _ = base.Fold(given, givenRules, v)
		read, _ = base.Read(given, givenRules, v, key)
		wreck(got)
		fill(read.Elems, "!")
		if !sameBase(given, b) || !spareKept(given) || !sameRules(givenRules, rules) {
			t.Fatalf("an answer of Fold or Read shares memory of %s", shown(b))
		}
	}
}

// P12.1: no two lists of what Fold answers share memory, also of lists that did when they were handed in.
func TestListsApart(t *testing.T) {
	live, ever := roomy([]api.Tag{{Seq: 1, Elem: "x"}}, spareTag), roomy([]string{"x"}, spare)
	s := api.State{Kind: api.Firm, Live: live, Ever: ever}
	log := roomy([]api.Txn{made(0, 1, 1, api.Vector{}, inc("k/1", 1)), made(0, 2, 2, api.Vector{}, inc("k/1", 1))}, spareTxn)
	log[1].Ops = log[0].Ops
	b := api.Base{Held: []api.Held{{Key: "k/3", State: s}, {Key: "k/4", State: s}}, Tail: api.Logs{log, log, log[:1], log[1:]}}
	rules := []api.Rule{rule(api.Firm, 0), rule(api.Set, 0)}
	want := []api.Held{{Key: "k/3", State: api.State{Kind: api.Firm, Live: []api.Tag{{Seq: 1, Elem: "x"}}, Ever: []string{"x"}}}}
	f := folded(t, b, rules, api.Vector{})
	fill(f.Held[1].State.Live, spareTag)
	fill(f.Held[1].State.Ever, "!")
	for _, x := range append(slices.Clone(f.Tail[1]), f.Tail[0][0]) {
		fill(x.Ops, spareOp)
	}
	fill(f.Tail[2], spareTxn)
	rest := api.Logs{f.Tail[0][1:], nil, nil, f.Tail[3]}
	if !sameHeld(f.Held[:1], want) || !sameLogs(rest, api.Logs{b.Tail[0][1:], nil, nil, b.Tail[3]}) {
		t.Errorf("lists share memory: %s", shown(f))
	}
}

// A tale is logs, a base of them that is folded to a cut, and the rules that it was folded by.
type tale struct {
	l     api.Logs
	at    api.Vector
	b     api.Base
	rules []api.Rule
}

// heldTo: at the cut Read of the folded base is chapter 10's value of the whole logs, or the error that the chapter tells.
func (x tale) heldTo(t *testing.T, v api.Vector) {
	t.Helper()
	for _, r := range x.rules {
		want, wantErr := value.Value(r.Kind, r.Start, x.l, v, r.Key)
		if !vec.Leq(x.at, v) {
			want, wantErr = api.Value{}, api.ErrOld
		}
		if got, err := base.Read(x.b, x.rules, v, r.Key); !same(got, want) || err != wantErr {
			t.Fatalf("%s at %v, folded to %v: %v, %v, want %v, %v\nof %v", r.Key, v, x.at, got, err, want, wantErr, x.l)
		}
	}
}

// someStarts: the catalogue, each key with a start of its own.
func someStarts(r *rand.Rand) []api.Rule {
	rules := catalogue(0)
	for i := range rules {
		rules[i].Start = int64(r.Intn(5) - 2)
	}
	r.Shuffle(len(rules), func(i, j int) { rules[i], rules[j] = rules[j], rules[i] })
	return rules
}

// P12.2, P12.3: small logs, folded to each closed cut and read at each cut there is, and folded on to each later one.
func TestEachCut(t *testing.T) {
	r := rand.New(rand.NewSource(3))
	steps := 0
	for range 40 {
		l := someLogs(r, 2+r.Intn(3), 7)
		rules := someStarts(r)
		b := fulls(t, l)
		cuts := cutsWithin(cut.Size(l))
		beyond := vec.Join(cut.Size(l), all(1))
		beyond[r.Intn(8)]++
		for _, at := range cuts {
			if !cut.Closed(l, at) {
				refuses(t, "an open cut", b, rules, at, api.ErrOpen)
				continue
			}
			x := tale{l, at, folded(t, b, rules, at), rules}
			for _, v := range append(cuts, beyond) {
				x.heldTo(t, v)
				if vec.Leq(at, v) && cut.Closed(l, v) {
					becomes(t, "folded on", x.b, rules, v, folded(t, b, rules, v))
					steps++
				}
			}
		}
	}
	if steps < 2000 {
		t.Errorf("%d steps from one closed cut to a later one", steps)
	}
}

// P12.2, P12.3: longer logs, folded to one closed cut behind the other and at once.
func TestFoldedOn(t *testing.T) {
	r := rand.New(rand.NewSource(4))
	old, apart := 0, 0
	for range 400 {
		l := someLogs(r, 1+r.Intn(8), 5+r.Intn(60))
		rules := someStarts(r)
		full := fulls(t, l)
		x := tale{l, api.Vector{}, full, rules}
		for range 1 + r.Intn(5) {
			to := vec.Join(x.at, cut.Close(l, someWithin(r, l)))
			again := folded(t, x.b, rules, to)
			becomes(t, "at once", full, rules, to, again)
			becomes(t, "to where it is", again, rules, to, again)
			if to != x.at {
				apart++
			}
			x = tale{l, to, again, rules}
		}
		for range 5 {
			v := cut.Close(l, someWithin(r, l))
			x.heldTo(t, v)
			x.heldTo(t, vec.Join(v, x.at))
			if !vec.Leq(x.at, v) {
				old++
			}
		}
		x.heldTo(t, cut.Size(l))
	}
	if old < 300 || apart < 400 {
		t.Errorf("%d cuts were old, %d times it was folded on", old, apart)
	}
}

// someWithin: a cut within the logs.
func someWithin(r *rand.Rand, l api.Logs) api.Vector {
	v := cut.Size(l)
	for i := range v {
		if r.Intn(3) > 0 {
			v[i] = uint64(r.Intn(int(v[i]) + 1))
		}
	}
	return v
}

// P12.3: a base with anything in it, folded to where it is first.
func TestFoldedToWhereItIs(t *testing.T) {
	r := rand.New(rand.NewSource(5))
	done := 0
	for range 4000 {
		b, rules := someBase(r), someRules(r)
		v := someCut(r, b)
		once, err := base.Fold(b, rules, v)
		here, hereErr := base.Fold(b, rules, b.At)
		if err != api.OK || hereErr != api.OK {
			continue
		}
		done++
		becomes(t, "folded to where it is first", here, rules, v, once)
		becomes(t, "folded to where it is behind that", once, rules, v, once)
	}
	if done < 1000 {
		t.Errorf("%d were folded", done)
	}
}

// manyKey: one of 64 keys.
func manyKey(n int) string { return "m/" + strconv.Itoa(n%64) }

func manyRules() []api.Rule {
	var l []api.Rule
	for n := range 64 {
		l = append(l, api.Rule{Kind: api.Set, Key: manyKey(n)})
	}
	return l
}

// manyLogs: logs as long as may be, each transaction with an Add to one of 64 keys.
func manyLogs() api.Logs {
	var l api.Logs
	for i := range l {
		for k := range uint64(full) {
			l[i] = append(l[i], made(i, k+1, k+1, api.Vector{}, add(manyKey(int(k)), fmt.Sprintf("%d.%04d", i, k))))
		}
	}
	return l
}

// P12.1: logs as long as may be, with as many rules as a catalogue has, are folded soon.
func TestFullLogs(t *testing.T) {
	begin := time.Now()
	l := manyLogs()
	b, rules := fulls(t, l), manyRules()
	half := folded(t, b, rules, all(full/2))
	whole := folded(t, half, rules, all(full))
	becomes(t, "at once", b, rules, all(full), whole)
	for n, h := range whole.Held {
		if len(h.State.Live) != 128 || n > 0 && h.Key <= whole.Held[n-1].Key {
			t.Errorf("%q has %d elements", h.Key, len(h.State.Live))
		}
	}
	for _, key := range []string{manyKey(0), manyKey(63)} {
		want, _ := value.Value(api.Set, 0, l, all(full), key)
		reads(t, "all", half, rules, all(full), key, want, api.OK)
	}
	if spent := time.Since(begin); spent > 20*time.Second {
		t.Errorf("it took %v", spent)
	}
}

// P12.1: many rules, many states held and many vectors are gone through once.
func TestManyRules(t *testing.T) {
	begin := time.Now()
	const many = 200000
	var rules []api.Rule
	var b api.Base
	for n := range many {
		key := strconv.Itoa(n * 7 % many)
		rules = append(rules, api.Rule{Kind: 1 + n%10, Key: key, Start: 5})
		b.Held = append(b.Held, api.Held{Key: strconv.Itoa(n * 3 % many), State: api.State{Kind: api.Counter, N: int64(n)}})
	}
	f := folded(t, b, append(rules, rules...), api.Vector{})
	if len(f.Held) != many/10*8 {
		t.Errorf("%d states", len(f.Held))
	}
	w := base.NewView(b, rules, api.Vector{})
	for n := range many {
		r := rules[n]
		want, wantErr := api.Value{}, api.ErrRule
		if r.Kind <= api.Ids {
			at, _ := strconv.Atoi(r.Key)
			for at%3 != 0 {
				at += many
			}
			want, wantErr = api.Value{N: int64(at / 3)}, api.OK
		}
		tells(t, "of many", w, r.Key, want, wantErr)
	}
	if got := base.Frontier(slices.Repeat([]api.Vector{all(3), all(4)}, many)); got != all(3) {
		t.Errorf("Frontier of many: %v", got)
	}
	if spent := time.Since(begin); spent > 20*time.Second {
		t.Errorf("it took %v", spent)
	}
}

// P12.1: several at one time, of one base.
func TestAtOneTime(t *testing.T) {
	r := rand.New(rand.NewSource(6))
	l := someLogs(r, 4, 20)
	b, rules := fulls(t, l), catalogue(1)
	want, _ := plainFold(b, rules, cut.Size(l))
	done := make(chan bool)
	for range 8 {
		go func() {
			fine := true
			for range 50 {
				got, err := base.Fold(b, rules, cut.Size(l))
				fine = fine && sameBase(got, want) && err == api.OK
				for _, kind := range kinds {
					got, err := base.Read(b, rules, cut.Size(l), keyOf(kind))
					want, wantErr := value.Value(kind, 1, l, cut.Size(l), keyOf(kind))
					fine = fine && same(got, want) && err == wantErr
				}
			}
			done <- fine
		}()
	}
	for range 8 {
		if !<-done {
			t.Error("one of eight answered otherwise")
		}
	}
}
