package vote_test

import (
	"fmt"
	"strings"
	"testing"

	"levee/api"
)

// P16.1: Prepare promises what is greater than Promised, and nothing else.
func TestPrepare(t *testing.T) {
	for _, a := range []api.Acceptor{
		{}, acceptor(1, 0, ""), acceptor(11, 0, ""), acceptor(11, 9, "x"), acceptor(11, 11, ""), acceptor(11, 0, "left over"),
		acceptor(5, 30, "above"), acceptor(0, top, "far above"), acceptor(1<<63, 1<<63, "\x00\xff"), acceptor(top-1, 3, "y"), acceptor(top, top, "z"),
	} {
		for _, n := range []uint64{0, 1, 2, a.Promised - 1, a.Promised, a.Promised + 1, a.Promised + 8, a.At, a.At + 1, 1 << 32, 1<<63 - 1, 1 << 63, 1<<63 + 7, top - 1, top} {
			want, ok := a, n > a.Promised
			if ok {
				want.Promised = n
			}
			prepares(t, "near", a, n, want, ok)
		}
	}
	prepares(t, "a ballot below", acceptor(11, 9, "x"), 10, acceptor(11, 9, "x"), false)
	prepares(t, "Promised itself", acceptor(11, 9, "x"), 11, acceptor(11, 9, "x"), false)
	prepares(t, "one more", acceptor(11, 9, "x"), 12, acceptor(12, 9, "x"), true)
	prepares(t, "ballot 0 of a new one", api.Acceptor{}, 0, api.Acceptor{}, false)
	prepares(t, "ballot 0 of one that promised", acceptor(8, 0, ""), 0, acceptor(8, 0, ""), false)
	prepares(t, "ballot 1 of a new one", api.Acceptor{}, 1, acceptor(1, 0, ""), true)
	prepares(t, "the greatest number", acceptor(8, 8, "x"), top, acceptor(top, 8, "x"), true)
	prepares(t, "the greatest number again", acceptor(top, 8, "x"), top, acceptor(top, 8, "x"), false)
	prepares(t, "At above Promised stays", acceptor(5, 30, "x"), 6, acceptor(6, 30, "x"), true)
	prepares(t, "At above Promised stays, as it was", acceptor(5, 30, "x"), 5, acceptor(5, 30, "x"), false)
	prepares(t, "no bits are lost", acceptor(1<<32, 0, ""), 1, acceptor(1<<32, 0, ""), false)
}

// P16.1: Accept takes what isn't below Promised, and isn't 0, in place of what was accepted ahead.
func TestAccept(t *testing.T) {
	was := acceptor(11, 9, "x")
	accepts(t, "a ballot below", was, 10, "y", was, false)
	accepts(t, "At's own ballot, which is below", was, 9, "x", was, false)
	accepts(t, "Promised itself", was, 11, "y", acceptor(11, 11, "y"), true)
	accepts(t, "one more", was, 12, "y", acceptor(12, 12, "y"), true)
	accepts(t, "the greatest number", was, top, "y", acceptor(top, top, "y"), true)
	accepts(t, "the greatest number again", acceptor(top, top, "y"), top, "z", acceptor(top, top, "z"), true)
	accepts(t, "below the greatest number", acceptor(top, 3, "y"), top-1, "z", acceptor(top, 3, "y"), false)
	accepts(t, "the same again", acceptor(11, 11, "x"), 11, "x", acceptor(11, 11, "x"), true)
	accepts(t, "another value by the same ballot", acceptor(11, 11, "x"), 11, "y", acceptor(11, 11, "y"), true)
	accepts(t, "a value without a byte", was, 11, "", acceptor(11, 11, ""), true)
	accepts(t, "behind a value without a byte", acceptor(11, 11, ""), 12, "y", acceptor(12, 12, "y"), true)
	accepts(t, "ballot 0 of a new one", api.Acceptor{}, 0, "y", api.Acceptor{}, false)
	accepts(t, "ballot 0 of a new one, no byte", api.Acceptor{}, 0, "", api.Acceptor{}, false)
	accepts(t, "ballot 0 of one that promised", was, 0, "y", was, false)
	accepts(t, "ballot 0 of one that accepted without a promise", acceptor(0, 30, "x"), 0, "y", acceptor(0, 30, "x"), false)
	accepts(t, "ballot 1 of a new one", api.Acceptor{}, 1, "y", acceptor(1, 1, "y"), true)
	accepts(t, "At above Promised, a ballot between", acceptor(5, 30, "x"), 20, "y", acceptor(20, 20, "y"), true)
	accepts(t, "At above Promised, Promised itself", acceptor(5, 30, "x"), 5, "y", acceptor(5, 5, "y"), true)
	accepts(t, "At above Promised, a ballot below", acceptor(5, 30, "x"), 4, "y", acceptor(5, 30, "x"), false)
	accepts(t, "At above Promised, a ballot above", acceptor(5, 30, "x"), 31, "y", acceptor(31, 31, "y"), true)
	accepts(t, "no bits are lost", acceptor(1<<32, 0, ""), 1, "y", acceptor(1<<32, 0, ""), false)
	accepts(t, "no sign", acceptor(1<<63, 0, ""), 1, "y", acceptor(1<<63, 0, ""), false)
	accepts(t, "no sign", acceptor(1, 0, ""), 1<<63, "y", acceptor(1<<63, 1<<63, "y"), true)
	long := strings.Repeat("a\x00\xff", 1<<17)
	accepts(t, "a long value", was, 11, long, acceptor(11, 11, long), true)
}

// P16.1, P16.3: each acceptor of small numbers, and each two or three calls on it: Promised never goes down, and At, once it isn't above it, never gets above it.
func TestEachRun(t *testing.T) {
	var on func(name string, a api.Acceptor, left int)
	on = func(name string, a api.Acceptor, left int) {
		if left == 0 || t.Failed() {
			return
		}
		for n := range uint64(5) {
			on(fmt.Sprint(name, " prepare ", n), prepared(t, name, a, n), left-1)
			on(fmt.Sprint(name, " accept ", n), accepted(t, name, a, n, "v"+name[:1]), left-1)
		}
	}
	for promised := range uint64(5) {
		for at := range uint64(6) {
			for _, value := range []string{"", "x"} {
				on(fmt.Sprint(promised, ", ", at, value), acceptor(promised, at, value), 3)
			}
		}
	}
}
