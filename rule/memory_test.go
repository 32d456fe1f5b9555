package rule_test

import (
	"math/rand"
	"slices"
	"testing"

	"levee/api"
	"levee/cut"
	"levee/rule"
	"levee/txn"
)

// An answer is all that the calls answer for some rules, a text, a member's operations, and logs at a cut.
type answer struct {
	check, parse, print, form, hold api.Errno
	number, find                    int
	text                            string
	n                               int64
	whole, held                     bool
}

// ask: all calls; the rules of the text beside the others.
func ask(rules []api.Rule, text, word string, member int, l []api.Op, logs api.Logs, v api.Vector) (answer, []api.Rule) {
	var a answer
	var parsed []api.Rule
	a.check = rule.Check(rules)
	parsed, a.number, a.parse = rule.Parse(text)
	a.text, a.print = rule.Print(rules)
	a.find = rule.Find(rules, word)
	a.n, a.whole = rule.Whole(word)
	a.form = rule.Form(rules, member, l)
	a.held, a.hold = rule.Holds(rules, logs, v)
	return a, parsed
}

func sameLogs(a, b api.Logs) bool {
	for i := range a {
		if !txn.SameList(a[i], b[i]) {
			return false
		}
	}
	return true
}

// P14.1: what is handed in stays as it is, its spare room too, and nothing of it is kept.
func TestHandedIn(t *testing.T) {
	r := rand.New(rand.NewSource(1))
	met := 0
	for range 2000 {
		rules := goodRules(r, 8)
		if r.Intn(3) == 0 {
			rules = anyRules(r)
		}
		member, text := r.Intn(8), ""
		for _, x := range goodRules(r, 8) {
			text += plainWords(x) + "\n"
		}
		list, logs := someOps(r, rules, member), anyLogs(r, rules, 8, 8)
		v, word := cut.Close(logs, someCut(r, logs)), one(r, append(pool(), "12", "-1099511627776")...)
		want, wantParsed := ask(rules, text, word, member, list, logs, v)
		var m room
		w := v
		givenRules, givenOps, givenLogs, givenText, givenWord := m.rules(rules), m.ops(list), m.logs(logs), m.text(text), m.text(word)
		got, parsed := ask(givenRules, givenText, givenWord, member, givenOps, givenLogs, w)
		if !slices.Equal(givenRules, rules) || !slices.Equal(givenOps, list) || !sameLogs(givenLogs, logs) || givenText != text || givenWord != word || w != v {
			t.Fatal("what was handed in was changed")
		}
		if !rulesKept(givenRules) || !opsKept(givenOps) || !logsKept(givenLogs) {
			t.Fatal("the spare room of what was handed in was changed")
		}
		m.change()
		clear(givenRules)
		clear(givenOps)
		if got != want || !slices.Equal(parsed, wantParsed) {
			t.Fatalf("behind a change of what was handed in: %+v, %v; want %+v, %v", got, parsed, want, wantParsed)
		}
		met += len(parsed)
	}
	if met < 2000 {
		t.Errorf("met %d", met)
	}
}

// P14.1: the rules that Parse answers are its caller's own.
func TestNewMemory(t *testing.T) {
	first, _, _ := rule.Parse(everyText)
	second, _, _ := rule.Parse(everyText)
	clear(first[:cap(first)])
	if !slices.Equal(second, every()) {
		t.Error("an answer was changed by another one")
	}
	parses(t, "once more", everyText, every(), 0, api.OK)
	prints(t, "once more", every(), everyText, api.OK)
}

// P14.1: a call hangs on its arguments alone, and several may be made at one time.
func TestAtOneTime(t *testing.T) {
	rules, list, logs := every(), ops(add("set", "x"), add("set2", "x")), goodLogs()
	want, wantParsed := ask(rules, everyText, "flag", 3, list, logs, cut.Size(logs))
	done := make(chan bool)
	for range 8 {
		go func() {
			good := true
			for range 100 {
				got, parsed := ask(rules, everyText, "flag", 3, list, logs, cut.Size(logs))
				good = good && got == want && slices.Equal(parsed, wantParsed)
			}
			done <- good
		}()
	}
	for range 8 {
		if !<-done {
			t.Error("one of eight answered otherwise")
		}
	}
}

// P14.1: anything may be handed in: each call ends, and none panics.
func TestAnything(t *testing.T) {
	r := rand.New(rand.NewSource(2))
	number := func() int64 { return one(r, 0, 1, -1, 3, 8, 1<<32+3, most, 1<<63-1, -1<<63, int64(r.Uint64())) }
	text := func() string { return one(r, "", "a", "b", "x y", "\x00\xff", "1", "-0", "set a\n", "ids") }
	for range 5000 {
		var rules []api.Rule
		for range r.Intn(4) {
			rules = append(rules, api.Rule{Kind: one(r, int(number()), r.Intn(12)), Key: text(), Other: text(), Min: one(r, 0, number()), Start: one(r, 0, number())})
		}
		var l []api.Op
		for range r.Intn(10) {
			l = append(l, api.Op{Kind: one(r, int(number()), r.Intn(10)), Key: text(), Elem: text(), N: number()})
		}
		var logs api.Logs
		for range r.Intn(4) {
			i := r.Intn(8)
			logs[i] = append(logs[i], api.Txn{Origin: int(number()), Seq: uint64(number()), Stamp: uint64(number()), Deps: all(uint64(number())), Ops: l})
		}
		var v api.Vector
		v[r.Intn(8)] = uint64(number())
		got, _ := ask(rules, text()+text()+"\n"+text(), text(), int(number()), l, logs, v)
		if want := plainCheck(rules); got.check != want || got.print != want {
			t.Fatalf("Check and Print of %+v: %v, %v; want %v", rules, got.check, got.print, want)
		}
	}
}
