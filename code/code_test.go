package code_test

import (
	"math/rand"
	"slices"
	"strings"
	"testing"

	"levee/api"
	"levee/code"
)

// someBytes: n bytes that hang on the source alone, so that a failing run comes again.
func someBytes(r *rand.Rand, n int) string {
	b := make([]byte, n)
	for i := range b {
		b[i] = byte(r.Intn(256))
	}
	return string(b)
}

// P1.1, P1.2: numbers.
func TestNum(t *testing.T) {
	for _, c := range []struct {
		n    uint64
		want string
	}{
		{0, "\x00\x00\x00\x00\x00\x00\x00\x00"},
		{1, "\x00\x00\x00\x00\x00\x00\x00\x01"},
		{258, "\x00\x00\x00\x00\x00\x00\x01\x02"},
		{0x0102030405060708, "\x01\x02\x03\x04\x05\x06\x07\x08"},
		{1 << 63, "\x80\x00\x00\x00\x00\x00\x00\x00"},
		{1<<64 - 1, "\xff\xff\xff\xff\xff\xff\xff\xff"},
	} {
		if got := code.Num(c.n); got != c.want {
			t.Errorf("Num(%d) = %x, want %x", c.n, got, c.want)
		}
		if n, err := code.ReadNum(c.want); n != c.n || err != api.OK {
			t.Errorf("ReadNum(%x) = %d, %v", c.want, n, err)
		}
	}
}

func TestNumThereAndBack(t *testing.T) {
	r := rand.New(rand.NewSource(1))
	for range 2000 {
		n := r.Uint64() >> r.Intn(64)
		if got, err := code.ReadNum(code.Num(n)); got != n || err != api.OK {
			t.Fatalf("ReadNum(Num(%d)) = %d, %v", n, got, err)
		}
		s := someBytes(r, 8)
		got, _ := code.ReadNum(s)
		if code.Num(got) != s {
			t.Fatalf("Num(ReadNum(%x)) = %x", s, code.Num(got))
		}
	}
}

func TestReadNumRefuses(t *testing.T) {
	for n := range 40 {
		if n == 8 {
			continue
		}
		if got, err := code.ReadNum(strings.Repeat("\x01", n)); got != 0 || err != api.ErrBytes {
			t.Errorf("ReadNum of %d bytes = %d, %v", n, got, err)
		}
	}
}

// P1.1: Pack.
func TestPackBytes(t *testing.T) {
	for _, c := range []struct {
		fields []string
		want   string
	}{
		{nil, "\x00\x00\x00\x00"},
		{[]string{}, "\x00\x00\x00\x00"},
		{[]string{""}, "\x00\x00\x00\x01\x00\x00\x00\x00"},
		{[]string{"a", ""}, "\x00\x00\x00\x02\x00\x00\x00\x01a\x00\x00\x00\x00"},
		{[]string{"", "\x00\xff"}, "\x00\x00\x00\x02\x00\x00\x00\x00\x00\x00\x00\x02\x00\xff"},
		{[]string{strings.Repeat("x", 258)}, "\x00\x00\x00\x01\x00\x00\x01\x02" + strings.Repeat("x", 258)},
		{[]string{strings.Repeat("y", 1<<16)}, "\x00\x00\x00\x01\x00\x01\x00\x00" + strings.Repeat("y", 1<<16)},
	} {
		if got, err := code.Pack(c.fields); got != c.want || err != api.OK {
			t.Errorf("Pack of %d fields: %d bytes, %v; want %d bytes", len(c.fields), len(got), err, len(c.want))
		}
	}
}

// fullFields: fields whose Pack has size bytes (where the last one has room for its length).
func fullFields(size int) []string {
	var fields []string
	for left := size - 4; left > 0; {
		n := min(left-4, api.MaxField)
		fields = append(fields, strings.Repeat("z", n))
		left -= 4 + n
	}
	return fields
}

func TestPackLimits(t *testing.T) {
	for _, c := range []struct {
		name   string
		fields []string
		want   api.Errno
	}{
		{"4096 fields", make([]string, 4096), api.OK},
		{"4097 fields", make([]string, 4097), api.ErrLong},
		{"a field of 2^16", []string{strings.Repeat("x", 1<<16)}, api.OK},
		{"a field above 2^16", []string{strings.Repeat("x", 1<<16+1)}, api.ErrLong},
		{"a later field above 2^16", []string{"", "a", strings.Repeat("x", 1<<16+1)}, api.ErrLong},
		{"2^20 bytes", fullFields(1 << 20), api.OK},
		{"2^20 + 1 bytes", fullFields(1<<20 + 1), api.ErrLong},
		{"far above 2^20 bytes", slices.Repeat([]string{strings.Repeat("x", 1<<16)}, 4096), api.ErrLong},
	} {
		got, err := code.Pack(c.fields)
		if err != c.want {
			t.Errorf("%s: %v, want %v", c.name, err, c.want)
		}
		if err != api.OK && got != "" {
			t.Errorf("%s: %d bytes beside an error", c.name, len(got))
		}
		if err == api.OK {
			if back, err := code.Unpack(got); !slices.Equal(back, c.fields) || err != api.OK {
				t.Errorf("%s: Unpack(Pack) is another: %d fields, %v", c.name, len(back), err)
			}
		}
	}
	if s, _ := code.Pack(fullFields(1 << 20)); len(s) != 1<<20 {
		t.Errorf("the fullest Pack has %d bytes", len(s))
	}
}

// P1.2: Unpack(Pack(f)) is f.
func TestPackThereAndBack(t *testing.T) {
	r := rand.New(rand.NewSource(2))
	for range 500 {
		fields := make([]string, r.Intn(20))
		for i := range fields {
			fields[i] = someBytes(r, r.Intn(40))
		}
		kept := slices.Clone(fields)
		s, err := code.Pack(fields)
		if err != api.OK || !slices.Equal(fields, kept) {
			t.Fatalf("Pack(%q): %v", kept, err)
		}
		if back, err := code.Unpack(s); !slices.Equal(back, fields) || err != api.OK {
			t.Fatalf("Unpack(Pack(%q)) = %q, %v", fields, back, err)
		}
	}
}

func refused(t *testing.T, name, s string) {
	t.Helper()
	if l, err := code.Unpack(s); len(l) != 0 || err != api.ErrBytes {
		t.Errorf("Unpack of %s: %d fields, %v", name, len(l), err)
	}
}

// P1.1: Unpack of bytes that no Pack makes.
func TestUnpackRefuses(t *testing.T) {
	whole, _ := code.Pack([]string{"ab", "", "c"})
	for n := range len(whole) {
		refused(t, "a beginning", whole[:n])
	}
	refused(t, "one byte more", whole+"\x00")
	refused(t, "two of them", whole+whole)
	refused(t, "a count too great", "\x00\x00\x00\x02\x00\x00\x00\x00")
	refused(t, "a count too small", "\x00\x00\x00\x00\x00\x00\x00\x00")
	refused(t, "the greatest count", "\xff\xff\xff\xff")
	refused(t, "4097 fields", "\x00\x00\x10\x01"+strings.Repeat("\x00\x00\x00\x00", 4097))
	refused(t, "a field above 2^16", "\x00\x00\x00\x01\x00\x01\x00\x01"+strings.Repeat("x", 1<<16+1))
	refused(t, "the greatest length", "\x00\x00\x00\x01\xff\xff\xff\xff")
	refused(t, "a length beyond an int of 32 bits", "\x00\x00\x00\x01\x80\x00\x00\x01a")
	field := "\x00\x01\x00\x00" + strings.Repeat("x", 1<<16)
	refused(t, "more than 2^20 bytes", "\x00\x00\x00\x10"+strings.Repeat(field, 16))
	if l, err := code.Unpack("\x00\x00\x10\x00" + strings.Repeat("\x00\x00\x00\x00", 4096)); len(l) != 4096 || err != api.OK {
		t.Errorf("Unpack of 4096 fields: %d, %v", len(l), err)
	}
}

// P1.2: what Unpack takes is Pack of what it answers.
func TestUnpackTakesPacksAlone(t *testing.T) {
	r := rand.New(rand.NewSource(3))
	taken := 0
	for range 20000 {
		b := make([]byte, 4+r.Intn(16))
		for i := range b {
			b[i] = byte(r.Intn(3)) * byte(r.Intn(2))
		}
		b[0], b[1], b[2] = 0, 0, 0
		s := string(b)
		l, err := code.Unpack(s)
		if err == api.OK {
			taken++
			if back, _ := code.Pack(l); back != s {
				t.Fatalf("Unpack(%x) = %q, whose Pack is %x", s, l, back)
			}
		} else if err != api.ErrBytes || len(l) != 0 {
			t.Fatalf("Unpack(%x) = %q, %v", s, l, err)
		}
	}
	if taken < 100 {
		t.Errorf("only %d were taken: the test looks at too little", taken)
	}
}
