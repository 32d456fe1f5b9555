package rule_test

import (
	"fmt"
	"math/rand"
	"slices"
	"strings"
	"testing"

	"levee/api"
	"levee/rule"
)

// P14.1: the chapter's examples.
func TestExamples(t *testing.T) {
	parses(t, "the example", "bound b 3 2", nil, 0, api.ErrRule)
	parses(t, "the example", "set a\nset b\nref a c", nil, 0, api.ErrRule)
	parses(t, "the example", "bound b", nil, 1, api.ErrWord)
	forms(t, "the example", some(set("a"), set("b"), ref("a", "b")), 0, ops(add("a", "x")), api.ErrForm)
}

// everyText: the text of every().
const everyText = "ref set set2\neither flag flag2\ncounter counter -7\nbound bound 3 5\nset set\nfirm firm\nlast last\nmulti multi\nflag flag 1\nids ids\nset set2\nflag flag2 0\n"

// P14.1: each kind of line.
func TestLines(t *testing.T) {
	for _, c := range []struct {
		text string
		want []api.Rule
	}{
		{"counter a 5", some(counter("a", 5))},
		{"counter a 0", some(counter("a", 0))},
		{"counter a/1 -1099511627776", some(counter("a/1", -most))},
		{"counter a 1099511627776", some(counter("a", most))},
		{"bound b 3 5", some(bound("b", 3, 5))},
		{"bound b -3 -3", some(bound("b", -3, -3))},
		{"bound b -1099511627776 1099511627776", some(bound("b", -most, most))},
		{"set s", some(set("s"))},
		{"firm s", some(firm("s"))},
		{"last s", some(last("s"))},
		{"multi s", some(multi("s"))},
		{"flag f 0", some(flag("f", 0))},
		{"flag f 1", some(flag("f", 1))},
		{"ids i", some(ids("i"))},
		{"set a\nset b\nref a b", some(set("a"), set("b"), ref("a", "b"))},
		{"flag a 1\nflag b 0\neither a b", some(flag("a", 1), flag("b", 0), either("a", "b"))},
		{"set set", some(set("set"))},
		{"counter counter 1\nset bound\nids ref", some(counter("counter", 1), set("bound"), ids("ref"))},
		{"set 0", some(set("0"))},
		{everyText, every()},
	} {
		parses(t, "lines", c.text, c.want, 0, api.OK)
		parses(t, "lines, a byte 10 behind", c.text+"\n", c.want, 0, api.OK)
		parses(t, "lines, others between", "#\n\n"+strings.ReplaceAll(c.text, "\n", "\n# set x\n\n")+"\n\n#", c.want, 0, api.OK)
	}
}

// P14.1: empty lines and such begun with # are no rules; no text is no rules.
func TestNoRules(t *testing.T) {
	for _, text := range []string{"", "\n", "\n\n\n", "#", "#\n", "##", "# set a", "#set a\n#bound", "\n#\n\n# # \n", "#\x00\xff", strings.Repeat("\n", 65536), strings.Repeat("#", 65536)} {
		parses(t, "no rules", text, nil, 0, api.OK)
		if len(text) < 60000 {
			parses(t, "one behind", text+"\nset a", some(set("a")), 0, api.OK)
			parses(t, "one ahead", "set a\n"+text, some(set("a")), 0, api.OK)
			parses(t, "one that is none behind", text+"\nset", nil, strings.Count(text, "\n")+2, api.ErrWord)
		}
	}
}

// P14.1: lines that are none, with their number.
func TestNoLines(t *testing.T) {
	for _, line := range []string{
		" ", "  ", "   ", "\t", "\r", "\x00", " #", " # a", "\t#", "a", "set", "sett a", "Set a", "SET a", " set a", "  set a", "set a ", "set a  ", "set a b", "set a #", "set  a", "set a\tb c", "set\ta", "set,a", "set\x00a", "\xefset a",
		"counter", "counter a", "counter a ", "counter a b", "counter a 1 ", "counter  a 1", "counter a  1", " counter a 1", "counter a 1 2", "counter a 01", "counter a -0", "counter a +1", "counter a 1.0", "counter a 1099511627777", "counter a -1099511627777", "counter a 10000000000000", "counter a -", "counter 1 a", "counter a 1\r", "counter a\t1",
		"bound", "bound b", "bound b 1", "bound b 1 ", "bound b  1", "bound b 1 2 3", "bound b 1 2 ", "bound b 1  2", "bound b  1 2", "bound  b 1 2", "bound b x 2", "bound b 1 x", "bound b 01 2", "bound b 1 02", "bound b -0 2", "bound b 1 -0", "bound b 1099511627777 0", "bound b 0 1099511627777", "bound 1 2 b",
		"flag", "flag f", "flag f ", "flag f on", "flag f 01", "flag f 1 1", "flag f -0", "flag f -", "flag  f 1", "flag f  1",
		"firm", "firm a b", "firm a ", "last", "last a b", "last  a", "multi", "multi a b", " multi a", "ids", "ids a b", "ids a 1", "ids a ",
		"ref", "ref a", "ref a b c", "ref a b ", "ref  a b", "ref a  b", "ref ", "either", "either a", "either a b c", "either a b ", "either  a b", "either a  b", "either ",
		"KEY", "set KEY OTHER", "counter KEY START", "0", "1 a", "sets a", "se a", "setter a", "add a x", "rule set a",
	} {
		for n, ahead := range []string{"", "set x\n", "set x\n\n", "# a\nset x\n#\n"} {
			for _, behind := range []string{"", "\n", "\nset y", "\nset", "\nset x"} {
				parses(t, "no line", ahead+line+behind, nil, n+1, api.ErrWord)
			}
		}
	}
}

// P14.1: KEY and OTHER are any words, none too, and a START any whole: which may be is asked behind all lines.
func TestAnyWords(t *testing.T) {
	for _, line := range []string{
		"set ", "firm ", "last ", "multi ", "ids ", "set A", "set a\tb", "set a\r", "set #", "set \x00", "set \xff", "set -", "set é", "set " + strings.Repeat("a", 33), "set " + strings.Repeat("a", 60000),
		"counter  5", "bound  1 2", "flag  1", "flag f 2", "flag f -1", "flag f 1099511627776", "bound b 3 2", "bound b 0 -1099511627776", "counter A 1",
		"ref a ", "ref  a", "ref  ", "either a ", "either  ", "ref a a", "ref a b", "either a b", "ref A B",
	} {
		parses(t, "a rule that may not be", line, nil, 0, api.ErrRule)
		parses(t, "a rule that may not be, behind one", "set a\n"+line+"\n", nil, 0, api.ErrRule)
		parses(t, "a rule that may not be, ahead of a line that is none", line+"\n\nset", nil, 3, api.ErrWord)
		parses(t, "a rule that may not be, behind a line that is none", "bound\n"+line, nil, 1, api.ErrWord)
	}
	parses(t, "two of one key", "set a\nfirm a", nil, 0, api.ErrRule)
	parses(t, "two of one key, and a line that is none", "set a\nfirm a\nfirm", nil, 3, api.ErrWord)
	parses(t, "a Ref ahead", "ref a b\nset a\nset b", some(ref("a", "b"), set("a"), set("b")), 0, api.OK)
	parses(t, "an Either of two that are off", "flag a 0\nflag b 0\neither a b", nil, 0, api.ErrRule)
}

// P14.1: of two lines that are none the number is the first one's.
func TestFirstLine(t *testing.T) {
	lines := strings.Split(everyText, "\n")
	for i := range lines {
		for j := i; j < len(lines); j++ {
			bad := slices.Clone(lines)
			bad[i], bad[j] = "bound b", "lamp"
			parses(t, "two that are none", strings.Join(bad, "\n"), nil, i+1, api.ErrWord)
		}
	}
	text := strings.Repeat("\n", 60000) + "x"
	parses(t, "far behind", text, nil, 60001, api.ErrWord)
}

// P14.1: MaxText bytes are taken, one more is refused, ahead of all else.
func TestLongText(t *testing.T) {
	for _, line := range []string{"set a", "set", "bound b 3 2", ""} {
		rules, number, err := plainParse(line)
		for _, fill := range []string{"#", "\n", "\n#", "# "} {
			text := line + "\n#"
			text += strings.Repeat(fill, (65536-len(text))/len(fill))
			text += strings.Repeat("\n", 65536-len(text))
			parses(t, "MaxText bytes", text, rules, number, err)
			parses(t, "one less", text[:65535], rules, number, err)
			parses(t, "one more", text+"\n", nil, 0, api.ErrLong)
			parses(t, "one more", text+"x", nil, 0, api.ErrLong)
			parses(t, "far more", strings.Repeat(text, 20), nil, 0, api.ErrLong)
		}
	}
	parses(t, "all blanks", strings.Repeat(" ", 65536), nil, 1, api.ErrWord)
	parses(t, "all blanks, one more", strings.Repeat(" ", 65537), nil, 0, api.ErrLong)
	parses(t, "many lines", strings.Repeat("set a\n", 10922), nil, 0, api.ErrFull)
	parses(t, "many lines, a last one that is none", strings.Repeat("set a\n", 10922)+"last", nil, 10923, api.ErrWord)
	parses(t, "too many lines", strings.Repeat("set a\n", 10923), nil, 0, api.ErrLong)
}

// P14.1: then come Check's errors, with number 0.
func TestManyRules(t *testing.T) {
	text := func(n int) string {
		var lines []string
		for i := range n {
			lines = append(lines, fmt.Sprintf("counter c%d %d", i, i))
		}
		return strings.Join(lines, "\n# and\n\n")
	}
	parses(t, "63", text(63), counters(63), 0, api.OK)
	parses(t, "64", text(64), counters(64), 0, api.OK)
	parses(t, "65", text(65), nil, 0, api.ErrFull)
	parses(t, "65, one that may not be", "set A\n"+text(64), nil, 0, api.ErrFull)
	parses(t, "64, one that may not be", "set A\n"+text(63), nil, 0, api.ErrRule)
	parses(t, "65, a line that is none", text(65)+"\nset", nil, 64*3+2, api.ErrWord)
}

// P14.1: Parse against the plain telling, of texts nearly right.
func TestParseAsTold(t *testing.T) {
	r := rand.New(rand.NewSource(1))
	met := map[api.Errno]int{}
	for range 20000 {
		var lines []string
		for _, x := range goodRules(r, 6) {
			lines = append(lines, plainWords(x))
			if r.Intn(8) == 0 {
				lines = append(lines, one(r, "", "# a", "#", "set s/9"))
			}
		}
		b := []byte(strings.Join(lines, "\n"))
		for range r.Intn(3) {
			if len(b) > 0 {
				i := r.Intn(len(b))
				b = slices.Replace(b, i, i+r.Intn(2), []byte(one(r, "\n", " ", "#", "a", "1", "0", "-", "", "set", "\n\n"))...)
			}
		}
		rules, number, err := plainParse(string(b))
		met[err]++
		parses(t, "by chance", string(b), rules, number, err)
		if t.Failed() {
			t.FailNow()
		}
	}
	if met[api.OK] < 3000 || met[api.ErrWord] < 3000 || met[api.ErrRule] < 1000 {
		t.Errorf("met %v", met)
	}
}

// plainWords: the line of a rule, as the chapter's table tells it.
func plainWords(r api.Rule) string {
	switch r.Kind {
	case api.Counter:
		return fmt.Sprintf("counter %s %d", r.Key, r.Start)
	case api.Bound:
		return fmt.Sprintf("bound %s %d %d", r.Key, r.Min, r.Start)
	case api.Set:
		return "set " + r.Key
	case api.Firm:
		return "firm " + r.Key
	case api.Last:
		return "last " + r.Key
	case api.Multi:
		return "multi " + r.Key
	case api.Flag:
		return fmt.Sprintf("flag %s %d", r.Key, r.Start)
	case api.Ids:
		return "ids " + r.Key
	case api.Ref:
		return "ref " + r.Key + " " + r.Other
	}
	return "either " + r.Key + " " + r.Other
}

// P14.1: Print of each kind, and of rules that may not be.
func TestPrint(t *testing.T) {
	prints(t, "none", nil, "", api.OK)
	prints(t, "none", some(), "", api.OK)
	prints(t, "each", every(), everyText, api.OK)
	prints(t, "a Counter", some(counter("a", -most)), "counter a -1099511627776\n", api.OK)
	prints(t, "a Bound", some(bound("a/b", -most, most)), "bound a/b -1099511627776 1099511627776\n", api.OK)
	prints(t, "a Bound", some(bound("b", 3, 5)), "bound b 3 5\n", api.OK)
	prints(t, "two", some(set("b"), set("a")), "set b\nset a\n", api.OK)
	text := ""
	for i := range 64 {
		text += fmt.Sprintf("counter c%d %d\n", i, i)
	}
	prints(t, "64", counters(64), text, api.OK)
	prints(t, "65", counters(65), "", api.ErrFull)
	prints(t, "65 of nothing", make([]api.Rule, 65), "", api.ErrFull)
	prints(t, "a rule of nothing", make([]api.Rule, 1), "", api.ErrRule)
	prints(t, "a Ref alone", some(ref("a", "b")), "", api.ErrRule)
	prints(t, "one that may not be, at the end", append(every(), set("set")), "", api.ErrRule)
	for _, kind := range wrongKinds() {
		prints(t, "a kind that is none", some(set("a"), api.Rule{Kind: kind, Key: "b"}), "", api.ErrRule)
	}
	for _, key := range wrongKeys() {
		prints(t, "a key that is none", some(set("a"), set(key)), "", api.ErrRule)
	}
	for _, n := range beyond() {
		prints(t, "a Start beyond", some(counter("a", n)), "", api.ErrRule)
	}
	r := rand.New(rand.NewSource(2))
	for range 5000 {
		rules, want := anyRules(r), ""
		err := plainCheck(rules)
		if err == api.OK {
			for _, x := range rules {
				want += plainWords(x) + "\n"
			}
		}
		prints(t, "by chance", rules, want, err)
	}
}

// P14.2: what Print answers, parsed again, is the rules.
func TestThereAndBack(t *testing.T) {
	back := func(rules []api.Rule) {
		t.Helper()
		text, err := rule.Print(rules)
		if err != api.OK {
			t.Fatalf("Print of %v: %v", rules, err)
		}
		parses(t, "again", text, rules, 0, api.OK)
		parses(t, "again, without the last byte", strings.TrimSuffix(text, "\n"), rules, 0, api.OK)
	}
	back(nil)
	back(every())
	back(counters(64))
	for _, n := range []int64{0, 1, -1, 9, 10, most, -most, most - 1, 1 - most} {
		back(some(counter("a", n), bound("b", -most, n), bound("c", n, n), bound("d", n, most)))
	}
	long := strings.Repeat("z", 31)
	var wide []api.Rule // as long a text as there can be
	for i := range 64 {
		wide = append(wide, bound(long+string("abcdefghijklmnopqrstuvwxyz0123456789/"[i%36]), -most, -most))
	}
	for i := 36; i < 64; i++ {
		wide[i].Key = "y" + wide[i].Key[1:]
	}
	back(wide)
	r := rand.New(rand.NewSource(3))
	for range 10000 {
		back(goodRules(r, 10))
	}
}
