package rule

import (
	"strconv"
	"strings"

	"levee/api"
)

// The lines of the kinds, from the first one on, as the chapter writes them.
var lines = [...]string{
	"counter KEY START",
	"bound KEY MIN START",
	"set KEY",
	"firm KEY",
	"last KEY",
	"multi KEY",
	"flag KEY START",
	"ids KEY",
	"ref KEY OTHER",
	"either KEY OTHER",
}

// Parse: the rules of a text; beside ErrWord the number of the line that is none.
func Parse(text string) ([]api.Rule, int, api.Errno) {
	if len(text) > api.MaxText {
		return nil, 0, api.ErrLong
	}
	var rules []api.Rule
	for i, line := range strings.Split(text, "\n") {
		if line == "" || line[0] == '#' {
			continue
		}
		r, ok := readRule(strings.Split(line, " "))
		if !ok {
			return nil, i + 1, api.ErrWord
		}
		rules = append(rules, r)
	}
	if err := Check(rules); err != api.OK {
		return nil, 0, err
	}
	return rules, 0, api.OK
}

// Print: a text of the rules, a line a rule.
func Print(rules []api.Rule) (string, api.Errno) {
	if err := Check(rules); err != api.OK {
		return "", err
	}
	var text strings.Builder
	for _, r := range rules {
		text.WriteString(strings.Join(wordsOf(r), " "))
		text.WriteByte('\n')
	}
	return text.String(), api.OK
}

// Whole: the number of a word that is a whole.
func Whole(s string) (int64, bool) {
	if len(s) > len(Text(-api.MaxAmount)) {
		return 0, false
	}
	n, err := strconv.ParseInt(s, 10, 64)
	if err != nil || !within(n) || Text(n) != s { // with noughts or a plus ahead it is another text than the number's
		return 0, false
	}
	return n, true
}

// Text: any number in decimal.
func Text(n int64) string { return strconv.FormatInt(n, 10) }

// namesOf: the names in a kind's line, its word first; none, if there is no such kind.
func namesOf(kind int) []string {
	if kind < api.Counter || kind > api.Either {
		return nil
	}
	return strings.Split(lines[kind-api.Counter], " ")
}

// kindOf: the kind whose line begins with the word; 0: none.
func kindOf(word string) int {
	for kind := api.Counter; kind <= api.Either; kind++ {
		if namesOf(kind)[0] == word {
			return kind
		}
	}
	return 0
}

// readRule: the rule of a line's words, whether it may be or not.
func readRule(words []string) (api.Rule, bool) {
	r := api.Rule{Kind: kindOf(words[0])}
	names := namesOf(r.Kind)
	if len(names) != len(words) {
		return api.Rule{}, false
	}
	for i, word := range words {
		if !put(&r, names[i], word) {
			return api.Rule{}, false
		}
	}
	return r, true
}

// put: the field of that name becomes the word, if it may.
func put(r *api.Rule, name, word string) bool {
	ok := true
	switch name {
	case "KEY":
		r.Key = strings.Clone(word)
	case "OTHER":
		r.Other = strings.Clone(word)
	case "MIN":
		r.Min, ok = Whole(word)
	case "START":
		r.Start, ok = Whole(word)
	}
	return ok
}

// wordsOf: the words of the rule's line.
func wordsOf(r api.Rule) []string {
	words := namesOf(r.Kind)
	for i, name := range words {
		switch name {
		case "KEY":
			words[i] = r.Key
		case "OTHER":
			words[i] = r.Other
		case "MIN":
			words[i] = Text(r.Min)
		case "START":
			words[i] = Text(r.Start)
		}
	}
	return words
}
