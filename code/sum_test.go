package code_test

import (
	"math/rand"
	"strings"
	"sync"
	"testing"

	"levee/code"
)

// plainSum is the sum as the chapter's words tell it, bit by bit.
func plainSum(s string) uint32 {
	n := uint32(1<<32 - 1)
	for i := range len(s) {
		n ^= uint32(s[i])
		for range 8 {
			low := n % 2
			n /= 2
			if low == 1 {
				n ^= 0xedb88320
			}
		}
	}
	return n ^ (1<<32 - 1)
}

// sumTexts: the examples, each single byte, and some longer ones.
func sumTexts() []string {
	l := []string{"", "123456789", strings.Repeat("\x00", 100), strings.Repeat("\xff", 1<<17)}
	for i := range 256 {
		l = append(l, string([]byte{byte(i)}))
	}
	r := rand.New(rand.NewSource(4))
	for range 200 {
		l = append(l, someBytes(r, r.Intn(300)))
	}
	return l
}

// P1.1: Sum.
func TestSum(t *testing.T) {
	if got := code.Sum(""); got != 0 {
		t.Errorf(`Sum("") = %x`, got)
	}
	if got := code.Sum("123456789"); got != 0xcbf43926 {
		t.Errorf(`Sum("123456789") = %x`, got)
	}
	for _, s := range sumTexts() {
		if got, want := code.Sum(s), plainSum(s); got != want {
			t.Fatalf("Sum of %d bytes = %x, want %x", len(s), got, want)
		}
	}
}

// P1.5: a Book's Sum is Sum, and its table is made once.
func TestBook(t *testing.T) {
	var b code.Book
	if b.Made() != 0 {
		t.Errorf("a new book made %d tables", b.Made())
	}
	for _, s := range sumTexts() {
		if got, want := b.Sum(s), plainSum(s); got != want {
			t.Fatalf("a book's Sum of %d bytes = %x, want %x", len(s), got, want)
		}
		if b.Made() != 1 {
			t.Fatalf("behind a Sum made is %d", b.Made())
		}
	}
}

func TestBookMadeBehindEmptySum(t *testing.T) {
	var b code.Book
	if got := b.Sum(""); got != 0 || b.Made() != 1 {
		t.Errorf(`Sum("") = %x, made %d`, got, b.Made())
	}
}

func TestBooksAreApart(t *testing.T) {
	var a, b code.Book
	a.Sum("x")
	if a.Made() != 1 || b.Made() != 0 {
		t.Errorf("made %d and %d", a.Made(), b.Made())
	}
}

func TestBookByManyAtOnce(t *testing.T) {
	for range 50 {
		var b code.Book
		var all sync.WaitGroup
		begin := make(chan struct{})
		for range 16 {
			all.Go(func() {
				<-begin
				if n := b.Made(); n != 0 && n != 1 {
					t.Errorf("made %d times", n)
				}
				if got := b.Sum("123456789"); got != 0xcbf43926 {
					t.Errorf("a book's Sum = %x", got)
				}
				if n := b.Made(); n != 1 {
					t.Errorf("behind a Sum made is %d", n)
				}
			})
		}
		close(begin)
		all.Wait()
	}
}

// P1: no call panics, at all arguments.
func TestNoBook(t *testing.T) {
	var b *code.Book
	if got := b.Sum("123456789"); got != 0xcbf43926 || b.Made() != 0 {
		t.Errorf("Sum of no book = %x, made %d", got, b.Made())
	}
}
