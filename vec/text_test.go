package vec_test

import (
	"math/big"
	"math/rand"
	"regexp"
	"strings"
	"testing"

	"levee/api"
	"levee/vec"
)

// vectorTexts: vectors and what the chapter's words make their texts.
var vectorTexts = []struct {
	v    api.Vector
	text string
}{
	{api.Vector{}, "0.0.0.0.0.0.0.0"},
	{api.Vector{1}, "1.0.0.0.0.0.0.0"},
	{api.Vector{0, 0, 0, 0, 0, 0, 0, 1}, "0.0.0.0.0.0.0.1"},
	{api.Vector{0, 1, 2, 3, 4, 5, 6, 7}, "0.1.2.3.4.5.6.7"},
	{api.Vector{9, 10, 99, 100, 101, 1000, 10000, 100000}, "9.10.99.100.101.1000.10000.100000"},
	{
		api.Vector{1<<63 - 1, 1 << 63, 1<<63 + 1, top - 1, top, 1e19, 1e19 - 1, 1 << 32},
		"9223372036854775807.9223372036854775808.9223372036854775809.18446744073709551614.18446744073709551615.10000000000000000000.9999999999999999999.4294967296",
	},
	{
		api.Vector{top, top, top, top, top, top, top, top},
		strings.Repeat("18446744073709551615.", 7) + "18446744073709551615",
	},
}

// P2.1, P2.3: ordinary vectors and the edges.
func TestTexts(t *testing.T) {
	for _, c := range vectorTexts {
		if got := vec.Text(c.v); got != c.text {
			t.Errorf("Text(%v) = %q, want %q", c.v, got, c.text)
		}
		if got, err := vec.Read(c.text); got != c.v || err != api.OK {
			t.Errorf("Read(%q) = %v, %v", c.text, got, err)
		}
	}
}

// P2.3: Read(Text(v)) is v.
func TestReadOfText(t *testing.T) {
	check := func(v api.Vector) {
		t.Helper()
		if got, err := vec.Read(vec.Text(v)); got != v || err != api.OK {
			t.Fatalf("Read(Text(%v)) = %v, %v", v, got, err)
		}
	}
	for _, v := range someVectors() {
		check(v)
	}
	r := rand.New(rand.NewSource(2))
	for range 2000 {
		var v api.Vector
		for i := range v {
			v[i] = r.Uint64() >> r.Intn(64)
		}
		check(v)
	}
}

// badNumbers: words that are none of Text's numbers.
var badNumbers = []string{
	"", " ", "00", "01", "007", "-0", "-1", "+1", "+0", " 1", "1 ", "1\n", "\t1", "1\x00", "\x00",
	"1e3", "0x1", "0b1", "0o7", "1_000", "_1", "1,0", "a", "1a", "a1", "\xff", "1\xff", "\u0661", "\uff11", "/", ":", "1:", "Inf", "NaN",
	"18446744073709551616", "18446744073709551620", "20000000000000000000", "99999999999999999999",
	"018446744073709551615", "00000000000000000001", "000000000000000000001", "100000000000000000000",
	"184467440737095516150", "18446744073709551617", "36893488147419103232", strings.Repeat("1", 1000), strings.Repeat("0", 1000),
}

func refused(t *testing.T, s string) {
	t.Helper()
	if v, err := vec.Read(s); v != (api.Vector{}) || err != api.ErrBytes {
		t.Errorf("Read(%.200q) = %v, %v", s, v, err)
	}
}

// P2.1: one word that is none of Text's numbers, at each place.
func TestReadRefusesNumbers(t *testing.T) {
	for _, word := range badNumbers {
		for i := range api.MaxMembers {
			words := []string{"1", "2", "3", "4", "5", "6", "7", "8"}
			words[i] = word
			refused(t, strings.Join(words, "."))
		}
	}
}

// P2.1: numbers that are too few, too many, or not set apart by one point each.
func TestReadRefusesForms(t *testing.T) {
	for n := range 20 {
		if n != api.MaxMembers {
			refused(t, strings.TrimSuffix(strings.Repeat("1.", n), "."))
		}
		refused(t, strings.Repeat(".", n))
	}
	for _, s := range []string{
		"0", ".1.2.3.4.5.6.7.8", "1.2.3.4.5.6.7.8.", "1.2.3.4.5.6.7.8..", "1..2.3.4.5.6.7.8", "1.2.3.4.5.6.7..8", "1.2.3.4.5.6.7.",
		"1,2,3,4,5,6,7,8", "1 2 3 4 5 6 7 8", "1. 2.3.4.5.6.7.8", "1.2.3.4.5.6.7.8\n", "\n1.2.3.4.5.6.7.8", "1.2.3.4.5.6.7.8 ",
		"(1.2.3.4.5.6.7.8)", "1.2.3.4.5.6.7.8x", "1.2.3.4.5.6.7:8", "1.2.3.4.5.6.7.8.9", "1.2.3.4.5.6.7.8.x",
		"1\x002\x003\x004\x005\x006\x007\x008", "1\uff0e2.3.4.5.6.7.8", strings.Repeat(".", 1<<16), strings.Repeat("1.", 1<<16),
	} {
		refused(t, s)
	}
	for _, c := range vectorTexts {
		for n := range len(c.text) {
			// A beginning may lack digits of the last number alone: then it is another vector's text.
			if strings.Count(c.text[:n], ".") < 7 || c.text[n-1] == '.' {
				refused(t, c.text[:n])
			}
		}
	}
}

var plainForm = regexp.MustCompile(`\A(?:(?:0|[1-9][0-9]{0,19})\.){7}(?:0|[1-9][0-9]{0,19})\z`)

// plainRead is Read as the chapter's words tell it.
func plainRead(s string) (api.Vector, api.Errno) {
	if !plainForm.MatchString(s) {
		return api.Vector{}, api.ErrBytes
	}
	var v api.Vector
	for i, word := range strings.Split(s, ".") {
		n, _ := new(big.Int).SetString(word, 10)
		if !n.IsUint64() {
			return api.Vector{}, api.ErrBytes
		}
		v[i] = n.Uint64()
	}
	return v, api.OK
}

// changed: the text with one byte changed, put in, or taken out.
func changed(r *rand.Rand, s string) string {
	bytes := "00112589..-+ _x\x00\xff"
	b, i := string(bytes[r.Intn(len(bytes))]), r.Intn(len(s))
	switch r.Intn(3) {
	case 0:
		return s[:i] + b + s[i+1:]
	case 1:
		return s[:i] + b + s[i:]
	}
	return s[:i] + s[i+1:]
}

// P2.1, P2.3: of texts that are nearly a vector's, what Read takes is Text of what it answers, and the rest is refused.
func TestReadOfChangedTexts(t *testing.T) {
	r := rand.New(rand.NewSource(3))
	taken := 0
	for range 20000 {
		s := changed(r, vectorTexts[r.Intn(len(vectorTexts))].text)
		got, err := vec.Read(s)
		if want, wantErr := plainRead(s); got != want || err != wantErr {
			t.Fatalf("Read(%q) = %v, %v, want %v, %v", s, got, err, want, wantErr)
		}
		if err == api.OK {
			taken++
			if vec.Text(got) != s {
				t.Fatalf("Read takes %q, Text of what it answers is %q", s, vec.Text(got))
			}
		}
	}
	if taken < 1000 || taken > 19000 {
		t.Errorf("%d of 20000 texts were taken", taken)
	}
}
