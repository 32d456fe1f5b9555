package group

import (
	"strings"

	"levee/rule"
	"levee/txn"
)

// An entry is what a text's words say; what its first word doesn't ask for is a nought.
type entry struct {
	word   string
	member int
	key    string
	n      int64
}

// The words of the longest entry: grant M KEY N.
const mostWords = 4

// read: the entry of a text, if it is one.
func read(s string) (entry, bool) {
	words := strings.SplitN(s, " ", mostWords+1) // so a long text isn't cut into all its words
	switch words[0] {
	case "none":
		return entry{word: words[0]}, len(words) == 1
	case "join", "leave", "evict":
		return readMember(words)
	case "grant":
		return readGrant(words)
	}
	return entry{}, false
}

func readMember(words []string) (entry, bool) {
	if len(words) != 2 {
		return entry{}, false
	}
	e := entry{word: words[0], member: txn.Member(words[1])}
	return e, e.member >= 0
}

func readGrant(words []string) (entry, bool) {
	if len(words) != mostWords {
		return entry{}, false
	}
	n, ok := rule.Whole(words[3])
	e := entry{word: words[0], member: txn.Member(words[1]), key: words[2], n: n}
	return e, ok && n >= 1 && e.member >= 0 && txn.Key(e.key)
}
