package code_test

import (
	"encoding/binary"
	"math/rand"
	"slices"
	"strings"
	"testing"

	"levee/api"
	"levee/code"
)

// plainFrame is a frame as the chapter's words tell it, of a string of any length.
func plainFrame(s string) string {
	length := string(binary.BigEndian.AppendUint32(nil, uint32(len(s))))
	return length + string(binary.BigEndian.AppendUint32(nil, plainSum(length+s))) + s
}

// frames: some strings, and their frames.
func frames(r *rand.Rand, n int) (bodies, whole []string) {
	for range n {
		s := someBytes(r, r.Intn(30)*r.Intn(2))
		f, _ := code.Frame(s)
		bodies, whole = append(bodies, s), append(whole, f)
	}
	return bodies, whole
}

// P1.1: Frame.
func TestFrame(t *testing.T) {
	for _, s := range []string{"", "a", "hello", "\x00\x00", strings.Repeat("\xff", 300), strings.Repeat("x", 1<<16)} {
		got, err := code.Frame(s)
		if got != plainFrame(s) || err != api.OK {
			t.Errorf("Frame of %d bytes: %d bytes, %v", len(s), len(got), err)
		}
		if l, n := code.Scan(got); len(l) != 1 || l[0] != s || n != len(got) {
			t.Errorf("Scan of the frame of %d bytes: %d strings, %d bytes", len(s), len(l), n)
		}
	}
	if a, _ := code.Frame("a"); len(a) != 9 || a[:4] != "\x00\x00\x00\x01" || a[8:] != "a" {
		t.Errorf(`Frame("a") = %x`, a)
	}
	for _, n := range []int{1<<16 + 1, 1 << 17} {
		if got, err := code.Frame(strings.Repeat("x", n)); got != "" || err != api.ErrLong {
			t.Errorf("Frame of %d bytes: %d bytes, %v", n, len(got), err)
		}
	}
}

func scans(t *testing.T, name, s string, want []string, bytes int) {
	t.Helper()
	if l, n := code.Scan(s); !slices.Equal(l, want) || n != bytes {
		t.Errorf("Scan of %s: %q, %d; want %q, %d", name, l, n, want, bytes)
	}
}

// P1.1: Scan stops where no frame stands.
func TestScanStops(t *testing.T) {
	one, two := plainFrame("hello"), plainFrame("")
	both := []string{"hello", ""}
	scans(t, "nothing", "", nil, 0)
	scans(t, "bytes that are no frame", "no frame stands here", nil, 0)
	scans(t, "eight noughts", strings.Repeat("\x00", 8), nil, 0)
	scans(t, "two frames", one+two, both, 21)
	scans(t, "a beginning behind them", one+two+one[:7], both, 21)
	scans(t, "a frame without its last byte behind them", one+two+one[:12], both, 21)
	scans(t, "a wrong sum between", one+one[:12]+"x"+two, []string{"hello"}, 13)
	scans(t, "the greatest length", one+"\xff\xff\xff\xff"+strings.Repeat("\x00", 40), []string{"hello"}, 13)
	scans(t, "a length beyond an int of 32 bits", "\x80\x00\x00\x00"+strings.Repeat("\x00", 40), nil, 0)
	// Its sum is right: the length alone refuses it.
	scans(t, "a frame above MaxField", one+plainFrame(strings.Repeat("x", 1<<16+1)), []string{"hello"}, 13)
}

// P1.3: frames and any bytes behind them.
func TestScanBeginsWithFrames(t *testing.T) {
	r := rand.New(rand.NewSource(5))
	for range 500 {
		bodies, whole := frames(r, r.Intn(6))
		s := strings.Join(whole, "")
		l, n := code.Scan(s + someBytes(r, r.Intn(40)))
		if len(l) < len(bodies) || !slices.Equal(l[:len(bodies)], bodies) || n < len(s) {
			t.Fatalf("Scan of the frames of %q: %q, %d", bodies, l, n)
		}
	}
}

// P1.3: any beginning of frames.
func TestScanOfBeginnings(t *testing.T) {
	r := rand.New(rand.NewSource(6))
	for range 20 {
		bodies, whole := frames(r, 5)
		s := strings.Join(whole, "")
		count, end := 0, 0
		for k := range len(s) + 1 {
			for count < len(whole) && end+len(whole[count]) <= k {
				end += len(whole[count])
				count++
			}
			if l, n := code.Scan(s[:k]); !slices.Equal(l, bodies[:count]) || n != end {
				t.Fatalf("Scan of %d of %d bytes: %q, %d; want %q, %d", k, len(s), l, n, bodies[:count], end)
			}
		}
	}
}

// P1.4: one byte behind the length.
func TestScanOfOneByteChanged(t *testing.T) {
	for _, s := range []string{"", "a", "hello", strings.Repeat("\x00", 20)} {
		f, _ := code.Frame(s)
		for at := 4; at < len(f); at++ {
			for by := 1; by < 256; by++ {
				b := []byte(f)
				b[at] ^= byte(by)
				if l, n := code.Scan(string(b)); len(l) != 0 || n != 0 {
					t.Fatalf("byte %d of the frame of %q by %d: %q, %d", at, s, by, l, n)
				}
			}
		}
	}
	long, _ := code.Frame(strings.Repeat("long", 1<<14))
	for at := 4; at < len(long); at += 997 {
		b := []byte(long)
		b[at]++
		if l, n := code.Scan(string(b)); len(l) != 0 || n != 0 {
			t.Fatalf("byte %d of a long frame: %d strings, %d", at, len(l), n)
		}
	}
}
