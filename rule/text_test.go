package rule_test

import (
	"fmt"
	"math"
	"math/big"
	"math/rand"
	"strings"
	"testing"

	"levee/rule"
)

func whole(t *testing.T, s string, want int64, ok bool) {
	t.Helper()
	if got, there := rule.Whole(s); got != want || there != ok {
		t.Errorf("Whole(%.40q): %d, %t; want %d, %t", s, got, there, want, ok)
	}
}

func none(t *testing.T, s string) {
	t.Helper()
	whole(t, s, 0, false)
}

// P14.1: numbers of 1 to 13 digits are wholes, on either side of 0; of 14 none is.
func TestDigits(t *testing.T) {
	n := int64(0)
	for digits := 1; digits <= 18; digits++ {
		n = 10*n + int64(digits%10)
		first := int64(math.Pow10(digits - 1))
		for _, k := range []int64{first, n, 10*first - 1} {
			s := fmt.Sprint(k)
			if len(s) != digits {
				t.Fatal(s)
			}
			if k > most {
				none(t, s)
				none(t, "-"+s)
				continue
			}
			whole(t, s, k, true)
			whole(t, "-"+s, -k, true)
			none(t, "0"+s)
			none(t, "-0"+s)
			none(t, "00"+s)
			none(t, s+"a")
		}
	}
	for d := range int64(10) {
		whole(t, string(rune('0'+d)), d, true)
	}
	for n := range int64(3000) {
		whole(t, fmt.Sprint(n), n, true)
		whole(t, fmt.Sprint(-n), -n, true)
	}
}

// P14.1: 2^40, and one more, on either side of 0.
func TestMagnitude(t *testing.T) {
	whole(t, "1099511627776", most, true)
	whole(t, "-1099511627776", -most, true)
	whole(t, "1099511627775", most-1, true)
	whole(t, "-1099511627775", 1-most, true)
	for _, s := range []string{"1099511627777", "1099511627780", "1099511627786", "1100000000000", "2099511627776", "9999999999999", "10995116277760", "10000000000000"} {
		none(t, s)
		none(t, "-"+s)
	}
	for _, s := range []string{ // such as are less where they are cut off
		"4294967296000000", "18446744073709551615", "18446744073709551616", "18446744073709551617", "18446744073709551621", "9223372036854775807", "9223372036854775808", "9223372036854775809",
		"340282366920938463463374607431768211456", "340282366920938463463374607431768211457", "1" + strings.Repeat("0", 64), strings.Repeat("9", 1<<20),
	} {
		none(t, s)
		none(t, "-"+s)
	}
}

// P14.1: words that are no wholes.
func TestNoWholes(t *testing.T) {
	for _, s := range []string{
		"", "-", "--", "-0", "00", "01", "-01", "000", "0000000000001", "-0000000000001", "01099511627776", "+", "+1", "+0", "-+1", "+-1", "--1", "---1", "1-", "0-", "1-1",
		" ", " 1", "1 ", "- 1", "1 2", "\t1", "1\t", "\n1", "1\n", "1\r", "\x001", "1\x00", "a", "a1", "1a", "1.", ".1", "1.0", "1e3", "1E3", "1_000", "1,000", "0x1", "0b1", "0o7", "x", "١", "１", "−1", "–1", "½", "/", ":", "1/", "1:", "\xff", "1\xff",
		"inf", "nan", "0.0", "-.", "0-0", "ten", "#1",
	} {
		none(t, s)
	}
	for c := range 256 {
		b := string([]byte{byte(c)})
		if c < '0' || c > '9' {
			none(t, b)
			none(t, "1"+b)
			none(t, "1"+b+"2")
			none(t, b+b+"1")
			if c != '-' {
				none(t, b+"1")
			}
		}
	}
	none(t, strings.Repeat("1", 1<<20))
	none(t, strings.Repeat("0", 1<<20))
	none(t, strings.Repeat("-", 1<<20))
	none(t, "-"+strings.Repeat("0", 13)+"1")
}

// P14.1: each short word of few letters, and long ones by chance, as the chapter's words tell it.
func TestWholeAsTold(t *testing.T) {
	letters, words := "-0129+ a", []string{""}
	for range 5 {
		for _, w := range words[len(words)-int(math.Pow(float64(len(letters)), float64(len(words[len(words)-1])))):] {
			for _, c := range letters {
				words = append(words, w+string(c))
			}
		}
	}
	good := 0
	for _, w := range words {
		n, ok := plainWhole(w)
		if ok {
			good++
		}
		whole(t, w, n, ok)
	}
	if good < 1000 || len(words) != 1+8+64+512+4096+32768 {
		t.Errorf("%d of %d were wholes", good, len(words))
	}
	r := rand.New(rand.NewSource(1))
	for range 20000 {
		b := []byte(fmt.Sprint(r.Int63n(1<<uint(2+r.Intn(61))) - r.Int63n(1<<uint(2+r.Intn(40)))))
		if r.Intn(3) == 0 {
			b[r.Intn(len(b))] = "-0123456789+ "[r.Intn(13)]
		}
		n, ok := plainWhole(string(b))
		whole(t, string(b), n, ok)
	}
}

// P14.1: Text of any number, and Whole of it.
func TestText(t *testing.T) {
	numbers := []int64{0, 1, -1, 9, 10, 11, -9, -10, 99, 100, 101, -100, most, most + 1, -most, -most - 1, math.MaxInt64, math.MinInt64, math.MaxInt64 - 1, math.MinInt64 + 1, 1 << 31, 1 << 32, -1 << 31, -1 << 32}
	r := rand.New(rand.NewSource(2))
	for range 20000 {
		numbers = append(numbers, int64(r.Uint64())>>uint(r.Intn(64)))
	}
	for n := range int64(2000) {
		numbers = append(numbers, n, -n)
	}
	for _, n := range numbers {
		got := rule.Text(n)
		if want := big.NewInt(n).String(); got != want {
			t.Errorf("Text(%d): %q, want %q", n, got, want)
		}
		if amount(n) {
			whole(t, got, n, true)
		} else {
			none(t, got)
		}
	}
	for n, want := range map[int64]string{0: "0", -1: "-1", 1234567890: "1234567890", math.MaxInt64: "9223372036854775807", math.MinInt64: "-9223372036854775808"} {
		if got := rule.Text(n); got != want {
			t.Errorf("Text(%d): %q, want %q", n, got, want)
		}
	}
}
