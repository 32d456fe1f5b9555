package value_test

import (
	"math/rand"
	"slices"
	"testing"

	"levee/value"
)

// plainInto is Into as the chapter's words tell it.
func plainInto(l []string, s string) []string {
	place := len(l)
	for i := len(l) - 1; i >= 0; i-- {
		if !(l[i] < s) {
			place = i
		}
	}
	if place < len(l) && l[place] == s {
		return l
	}
	var out []string
	for i, e := range l {
		if i == place {
			out = append(out, s)
		}
		out = append(out, e)
	}
	if place == len(l) {
		out = append(out, s)
	}
	return out
}

// into: Into answers this list.
func into(t *testing.T, l []string, s string, want []string) {
	t.Helper()
	if got := value.Into(l, s); !slices.Equal(got, want) {
		t.Errorf("Into of %q and %q: %q, want %q", l, s, got, want)
	}
}

// P10.1: Into of lists that rise, and of others.
func TestInto(t *testing.T) {
	for _, c := range []struct {
		l    []string
		s    string
		want []string
	}{
		{nil, "", []string{""}},
		{nil, "x", []string{"x"}},
		{[]string{}, "x", []string{"x"}},
		{[]string{""}, "", []string{""}},
		{[]string{""}, "x", []string{"", "x"}},
		{[]string{"x"}, "", []string{"", "x"}},
		{[]string{"x"}, "x", []string{"x"}},
		{[]string{"x"}, "w", []string{"w", "x"}},
		{[]string{"x"}, "y", []string{"x", "y"}},
		{[]string{"x"}, "xx", []string{"x", "xx"}},
		{[]string{"xx"}, "x", []string{"x", "xx"}},
		{[]string{"x"}, "X", []string{"X", "x"}},
		{[]string{"x", "\xff"}, "\x80", []string{"x", "\x80", "\xff"}},
		{[]string{"a", "c", "e"}, "a", []string{"a", "c", "e"}},
		{[]string{"a", "c", "e"}, "c", []string{"a", "c", "e"}},
		{[]string{"a", "c", "e"}, "e", []string{"a", "c", "e"}},
		{[]string{"a", "c", "e"}, "", []string{"", "a", "c", "e"}},
		{[]string{"a", "c", "e"}, "b", []string{"a", "b", "c", "e"}},
		{[]string{"a", "c", "e"}, "d", []string{"a", "c", "d", "e"}},
		{[]string{"a", "c", "e"}, "f", []string{"a", "c", "e", "f"}},
		{[]string{"e", "c", "a"}, "a", []string{"a", "e", "c", "a"}},
		{[]string{"e", "c", "a"}, "c", []string{"c", "e", "c", "a"}},
		{[]string{"e", "c", "a"}, "e", []string{"e", "c", "a"}},
		{[]string{"e", "c", "a"}, "f", []string{"e", "c", "a", "f"}},
		{[]string{"a", "e", "c"}, "c", []string{"a", "c", "e", "c"}},
		{[]string{"a", "e", "c"}, "e", []string{"a", "e", "c"}},
		{[]string{"c", "a", "c"}, "c", []string{"c", "a", "c"}},
		{[]string{"a", "a", "c", "c"}, "a", []string{"a", "a", "c", "c"}},
		{[]string{"a", "a", "c", "c"}, "b", []string{"a", "a", "b", "c", "c"}},
		{[]string{"b", "a", "", "c"}, "", []string{"", "b", "a", "", "c"}},
		{[]string{"b", "a", "", "c"}, "c", []string{"b", "a", "", "c"}},
	} {
		into(t, c.l, c.s, c.want)
	}
}

// P10.1: Into against the plain telling, of lists of all lengths, rising or not.
func TestIntoAsTold(t *testing.T) {
	r := rand.New(rand.NewSource(1))
	there := 0
	for n := range 6000 {
		var l []string
		for range r.Intn(12) {
			l = append(l, string(rune('a' + r.Intn(9)))[r.Intn(2):])
		}
		if n%2 == 0 {
			slices.Sort(l)
		}
		if n%4 == 0 {
			l = slices.Compact(l)
		}
		s := string(rune('a' + r.Intn(9)))
		want := plainInto(l, s)
		if len(want) == len(l) {
			there++
		}
		into(t, l, s, want)
		into(t, want, s, want)
	}
	if there < 1000 || there > 5000 {
		t.Errorf("of 6000 %d stood there", there)
	}
}

// P10.1: one after the other, Into makes of any texts the rising list of them.
func TestIntoOneByOne(t *testing.T) {
	r := rand.New(rand.NewSource(2))
	var got, want []string
	for range 300 {
		b := make([]byte, r.Intn(3))
		r.Read(b)
		got, want = value.Into(got, string(b)), append(want, string(b))
	}
	slices.Sort(want)
	want = slices.Compact(want)
	if !slices.Equal(got, want) {
		t.Errorf("%q, want %q", got, want)
	}
}

// P10.1: Into changes and keeps nothing of what it is handed, the room behind the list neither, and answers new memory.
func TestIntoHandedIn(t *testing.T) {
	for _, l := range [][]string{nil, {"b"}, {"b", "d", "f"}, {"f", "d", "b"}, {"", "b"}} {
		for _, s := range []string{"", "a", "b", "c", "d", "f", "g"} {
			var m room
			list, text := m.list(l), m.text(s)
			got, want := value.Into(list, text), plainInto(l, s)
			if spare2 := list[:cap(list)][len(list):]; !slices.Equal(list, l) || !slices.Equal(spare2, []string{spare, spare}) {
				t.Errorf("Into of %q and %q changed its list: %q, behind it %q", l, s, list, spare2)
			}
			m.change()
			clear(list[:cap(list)])
			if !slices.Equal(got, want) {
				t.Errorf("Into of %q and %q kept what it was handed: %q, want %q", l, s, got, want)
			}
			list = m.list(l)
			got = value.Into(list, s)
			for i := range got[:cap(got)] {
				got[:cap(got)][i] = "!"
			}
			if spare2 := list[:cap(list)][len(list):]; !slices.Equal(list, l) || !slices.Equal(spare2, []string{spare, spare}) {
				t.Errorf("an answer of Into of %q and %q shares its list: %q, behind it %q", l, s, list, spare2)
			}
		}
	}
}
