package group_test

import (
	"fmt"
	"math/rand"
	"strings"
	"testing"
)

// goodEntries: entries of each form, with the edges of their words.
func goodEntries() []string {
	key := "abcdefghijklmnopqrstuvwxyz/01234" // 32 bytes
	l := texts("none", ask(0, "b", 3), ask(7, "0", 1), ask(3, "/", 12), ask(1, key, 9), ask(2, "/0/9/", most), ask(5, strings.Repeat("9", 32), most-1), ask(6, "none", 10))
	for m := range 8 {
		l = append(l, join(m), leave(m), evict(m), ask(m, "k", int64(m+1)))
	}
	return l
}

// P17.1: what is an entry.
func TestEntries(t *testing.T) {
	for _, s := range goodEntries() {
		fits(t, "good", s, true)
	}
	for _, n := range texts("1", "2", "9", "10", "4294967295", "4294967296", "4294967297", "1000000000000", "1099511627775", mostText) {
		fits(t, "a number", "grant 0 b "+n, true)
	}
	for c := range 256 {
		b := string([]byte{byte(c)})
		fits(t, "a key of one byte", "grant 0 "+b+" 1", c >= 'a' && c <= 'z' || c >= '0' && c <= '9' || c == '/')
		fits(t, "a number of one byte", "grant 0 b "+b, c >= '1' && c <= '9')
		for _, word := range texts("join", "leave", "evict") {
			fits(t, "a member of one byte", word+" "+b, c >= '0' && c <= '7')
		}
		fits(t, "a member of one byte", "grant "+b+" b 1", c >= '0' && c <= '7')
	}
	for n := range 40 {
		fits(t, fmt.Sprint("a key of ", n, " bytes"), "grant 0 "+strings.Repeat("k", n)+" 1", n >= 1 && n <= 32)
		fits(t, fmt.Sprint("a number of ", n, " digits"), "grant 0 b "+strings.Repeat("1", n), n >= 1 && n <= 12)
		fits(t, fmt.Sprint("a number of ", n, " digits"), "grant 0 b 1"+strings.Repeat("0", n), n <= 12)
	}
}

// P17.1: words that are no member's.
func TestNoMembers(t *testing.T) {
	for _, m := range texts("", "8", "9", "00", "01", "07", "10", "11", "77", "-1", "-0", "+1", "a", "A", "o", "/", ":", ".", "0.", "0x1", "\x000", "0\x00", "\x00", "\xff", "１", "one", "join", "none", strings.Repeat("0", 1000)) {
		for _, word := range texts("join", "leave", "evict") {
			fits(t, "no member", word+" "+m, false)
		}
		fits(t, "no member", "grant "+m+" b 1", false)
	}
}

// P17.1: words that are no key of a grant.
func TestNoKeys(t *testing.T) {
	for _, key := range texts("", "A", "aB", "a.b", ".", "a-b", "a_b", "-", "#", "*", "\t", "\n", "\x00", "a\x00", "\xff", "é", "ａ", strings.Repeat("k", 33), strings.Repeat("k", 64), strings.Repeat("k", 1<<16), strings.Repeat("k", 31)+"K", strings.Repeat("k", 32)+".") {
		fits(t, "no key", "grant 0 "+key+" 1", false)
	}
}

// P17.1: words that are no number of a grant.
func TestNoNumbers(t *testing.T) {
	for _, n := range texts("", "0", "-0", "-1", "-3", "-"+mostText, "00", "01", "03", "001", "0"+mostText, "+1", "+3", "+0", "--1", "1099511627777", "1099511627786", "2000000000000", "9999999999999", "10000000000000", "10995116277760",
		"18446744073709551617", "18446744073709551619", "9223372036854775808", "340282366920938463463374607431768211457", strings.Repeat("1", 1<<16),
		"a", "1a", "a1", "x", "1.", "1.0", ".1", "1e3", "0x1", "1_0", "1,0", "1-", "１", "\x001", "1\x00", "1\n", "\n1", "1\t", "\xff", "b", "one") {
		fits(t, "no number", "grant 0 b "+n, false)
	}
}

// P17.1: blanks where none may be, other bytes in their place, letters of unlike case, words too few and too many.
func TestNoEntries(t *testing.T) {
	fits(t, "no byte", "", false)
	for _, s := range goodEntries() {
		for _, bad := range texts(" "+s, s+" ", " "+s+" ", "\t"+s, s+"\t", "\n"+s, s+"\n", s+"\r", s+"\x00", "\x00"+s, "#"+s, s+"#", s+" none", "none "+s, s+" 0", s+" 1", s+"\n"+s, s+" "+s, s+s, "\ufeff"+s, "\""+s+"\"") {
			fits(t, "more than an entry", bad, false)
		}
		for i := range s {
			if s[i] == ' ' {
				for _, b := range texts("", "  ", "\t", "\n", " \t", "\t ", "\x00", "\r", "\v", "\u00a0", "\u2003", ".", "_", "/", " none ", " 0 0 ") {
					fits(t, "no blank", s[:i]+b+s[i+1:], false)
				}
				fits(t, "words too few", s[:i], false)
				fits(t, "words too few", s[:i+1], false)
				fits(t, "words too few", s[i+1:], false)
			}
		}
		for i := range s {
			if up := s[:i] + strings.ToUpper(s[i:i+1]) + s[i+1:]; up != s {
				fits(t, "unlike case", up, false)
			}
		}
		fits(t, "unlike case", strings.ToUpper(s), false)
		fits(t, "unlike case", strings.ToUpper(s[:1])+s[1:], false)
	}
	for _, s := range texts("join", "leave", "evict", "grant", "grant 0", "grant 0 b", "grant b 0 1", "grant 0 1", "grant 0 b 1 1", "grant 0 b c 1", "none 0", "join 0 1", "join 0 b 1", "evict 0 b 1", "leave -", "0", "join0", "grant0 b 1", "joins 0", "joi 0", "evicts 0", "noon", "nil", "non", "nonee", "null", "-", " ", "  ", "   ", "    ", "\n", "0 join", "b 0 5", "bound b 0 5") {
		fits(t, "other words", s, false)
	}
}

// P17.1: each text of few words of these, with one blank between.
func TestEachFewWords(t *testing.T) {
	words := texts("", "none", "join", "evict", "grant", "0", "7", "8", "b", "-1", "01", mostText, "1099511627777")
	lists := texts(words...)
	good, all := 0, 0
	for range 5 {
		var longer []string
		for _, s := range lists {
			want := plainFits(s)
			fits(t, "few words", s, want)
			all++
			if want {
				good++
			}
			for _, w := range words {
				longer = append(longer, s+" "+w)
			}
		}
		lists = longer
	}
	// None; join and evict of two members; grants to these, of all the words that are keys (but two), of three numbers.
	if keys := len(words) - 2; good != 1+2*2+2*keys*3 || all != 13+169+2197+28561+371293 {
		t.Errorf("%d of %d fitted", good, all)
	}
}

// P17.1: entries with each byte left out, and with each byte in each other's place and between.
func TestEachByte(t *testing.T) {
	met := map[bool]int{}
	for _, s := range goodEntries() {
		for i := 0; i <= len(s); i++ {
			fits(t, "a beginning", s[:i], plainFits(s[:i]))
			fits(t, "an end", s[i:], plainFits(s[i:]))
			for c := range 256 {
				b := string([]byte{byte(c)})
				changed := texts(s[:i] + b + s[i:])
				if i < len(s) {
					changed = append(changed, s[:i]+b+s[i+1:], s[:i]+s[i+1:])
				}
				for _, s := range changed {
					want := plainFits(s)
					fits(t, "a byte otherwise", s, want)
					met[want]++
				}
			}
		}
	}
	if met[true] < 1000 || met[false] < 50000 {
		t.Errorf("met %v", met)
	}
}

// P17.1: texts of any bytes, and entries with something otherwise.
func TestAnyText(t *testing.T) {
	r := rand.New(rand.NewSource(1))
	met := map[bool]int{}
	for range 200000 {
		s := ""
		switch r.Intn(3) {
		case 0:
			b := make([]byte, r.Intn(20))
			r.Read(b)
			s = string(b)
		case 1:
			for range r.Intn(7) {
				s += one(r, " ", " ", "none", "join", "leave", "evict", "grant", "0", "5", "8", "b", "a/9", "12", "-", "\xff", "A")
			}
		default:
			s = someEntry(r, every())
			for range r.Intn(3) {
				if s != "" {
					s = spoilt(r, s)
				}
			}
		}
		want := plainFits(s)
		fits(t, "any text", s, want)
		met[want]++
	}
	if met[true] < 20000 || met[false] < 20000 {
		t.Errorf("met %v", met)
	}
}

// P1: very long texts are told soon.
func TestLongTexts(t *testing.T) {
	const long = 1 << 22
	for _, b := range texts(" ", "0", "a", "1", "none", "join 0 ", "grant 0 b 1 ", "\x00", "\xff", "\n") {
		s := strings.Repeat(b, long/len(b))
		for _, bad := range texts(s, "none"+s, "none "+s, "join "+s, "join 0"+s, "join 0 "+s, "leave "+s, "evict "+s, "grant "+s, "grant 0 "+s, "grant 0 "+s+" 1", "grant 0 b "+s, "grant 0 b 1"+s, "grant 0 b 1 "+s) {
			fits(t, "very long", bad, false)
		}
	}
}
