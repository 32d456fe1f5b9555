package txn_test

import (
	"math/rand"
	"slices"
	"strings"
	"testing"

	"levee/api"
	"levee/txn"
)

func someKey(r *rand.Rand) string {
	n := 1 + r.Intn(5)
	if r.Intn(10) == 0 {
		n = 32
	}
	b := make([]byte, n)
	for i := range b {
		b[i] = "abyz0189/"[r.Intn(9)]
	}
	return string(b)
}

func someElem(r *rand.Rand) string {
	n := r.Intn(5)
	if r.Intn(10) == 0 {
		n = 32
	}
	b := make([]byte, n)
	r.Read(b)
	return string(b)
}

func someAmount(r *rand.Rand) int64 {
	if r.Intn(10) == 0 {
		return most
	}
	return 1 + r.Int63n(1<<(1+r.Intn(40)))
}

// someOp: an operation of the member that may be.
func someOp(r *rand.Rand, origin int) api.Op {
	o := op(1+r.Intn(8), someKey(r), "", 0)
	switch {
	case o.Kind == api.Give:
		o.Elem, o.N = plainMembers[(origin+1+r.Intn(7))%8], someAmount(r)
	case o.Kind <= api.Dec:
		o.N = someAmount(r)
	case o.Kind <= api.Write:
		o.Elem = someElem(r)
	}
	return o
}

func someNumber(r *rand.Rand) uint64 { return r.Uint64() >> r.Intn(64) }

// someTxn: a transaction that may be.
func someTxn(r *rand.Rand) api.Txn {
	t := api.Txn{Origin: r.Intn(8), Seq: max(1, someNumber(r)), Stamp: max(1, someNumber(r))}
	for i := range t.Deps {
		t.Deps[i] = someNumber(r)
	}
	t.Deps[t.Origin] = t.Seq - 1
	for range 1 + r.Intn(8) {
		t.Ops = append(t.Ops, someOp(r, t.Origin))
	}
	return t
}

// spoilt: the transaction with something changed, after which it may not be, mostly.
func spoilt(r *rand.Rand, t api.Txn) api.Txn {
	at := r.Intn(len(t.Ops))
	switch r.Intn(9) {
	case 0:
		t.Origin = []int{-1, 8, r.Intn(8), int(r.Uint64())}[r.Intn(4)]
	case 1:
		t.Seq = []uint64{0, t.Seq + 1, t.Seq - 1, r.Uint64()}[r.Intn(4)]
	case 2:
		t.Stamp = []uint64{0, 1, r.Uint64()}[r.Intn(3)]
	case 3:
		t.Deps[r.Intn(8)] += 1 - 2*uint64(r.Intn(2))
	case 4:
		t.Ops = slices.Repeat(t.Ops, r.Intn(3))
	case 5:
		t.Ops[at].Kind = []int{0, 9, 1 + r.Intn(8), -1, 256 + r.Intn(9), int(r.Uint64())}[r.Intn(6)]
	case 6:
		t.Ops[at].Key += []string{"A", "-", strings.Repeat("k", 32), "\x80"}[r.Intn(4)]
	case 7:
		t.Ops[at].Elem = []string{"", "x", "0", "7", "8", strings.Repeat("e", 32), strings.Repeat("e", 33)}[r.Intn(7)]
	case 8:
		t.Ops[at].N = amounts[r.Intn(len(amounts))]
	}
	return t
}

// P8.1: Check and Encode against the plain telling.
func TestAsTold(t *testing.T) {
	r := rand.New(rand.NewSource(1))
	taken, refusals := 0, 0
	for range 20000 {
		x := spoilt(r, someTxn(r))
		want := plainCheck(x)
		if want != api.OK {
			refusals++
			mayNot(t, "spoilt", x)
			continue
		}
		taken++
		mayBe(t, "not spoilt", x)
	}
	if taken < 2000 || refusals < 10000 {
		t.Errorf("%d transactions were taken, %d refused", taken, refusals)
	}
}

// P8.2: Decode(Encode(t)) is t, for transactions of every Kind.
func TestThereAndBack(t *testing.T) {
	r := rand.New(rand.NewSource(2))
	met := [9]int{}
	for range 5000 {
		x := someTxn(r)
		for _, o := range x.Ops {
			met[o.Kind]++
		}
		s, err := txn.Encode(x)
		if err != api.OK {
			t.Fatalf("Encode of %+v: %v", x, err)
		}
		back, err := txn.Decode(s)
		if err != api.OK || !alike(back, x) || !txn.Same(back, x) || !txn.Same(x, back) {
			t.Fatalf("Decode(Encode) of %+v: %+v, %v", x, back, err)
		}
	}
	if slices.Min(met[1:]) < 500 {
		t.Errorf("of the kinds were met: %d", met)
	}
}

// nearly: bytes that are a transaction's, or nearly.
func nearly(r *rand.Rand) string {
	x := someTxn(r)
	if r.Intn(4) == 0 {
		x = spoilt(r, x)
	}
	fields := plainFields(x)
	at := r.Intn(len(fields))
	switch r.Intn(8) {
	case 0: // a field more or less
		fields = slices.Insert(fields, at, someElem(r))
	case 1:
		fields = slices.Delete(fields, at, at+1)
	case 2: // four more or less
		fields = append(fields, fields[len(fields)-4:]...)
	case 3:
		fields[at] = []string{"", "\x01", "a", numOf(uint64(r.Intn(3))), fields[at] + "\x00", strings.Repeat("\x00", 64)}[r.Intn(6)]
	}
	b := []byte(packOf(fields...))
	switch r.Intn(8) {
	case 0: // a byte is changed
		b[r.Intn(len(b))] ^= 1 << r.Intn(8)
	case 1: // bytes are left out or come in
		i := r.Intn(len(b))
		b = slices.Delete(b, i, min(len(b), i+1+r.Intn(4)))
	case 2:
		b = slices.Insert(b, r.Intn(len(b)+1), byte(r.Intn(2)))
	}
	return string(b)
}

// P8.1, P8.2: what Decode takes is Encode of what it answers, byte for byte, and the rest is refused as told.
func TestBackAndThere(t *testing.T) {
	r := rand.New(rand.NewSource(3))
	met := map[api.Errno]int{}
	for range 40000 {
		s := nearly(r)
		want, wantErr := plainDecode(s)
		x, err := txn.Decode(s)
		if !alike(x, want) || err != wantErr {
			t.Fatalf("Decode of %q: %+v, %v; want %+v, %v", s, x, err, want, wantErr)
		}
		met[err]++
		if err != api.OK {
			continue
		}
		if again, err := txn.Encode(x); again != s || err != api.OK {
			t.Fatalf("Decode takes %q, Encode of what it answers is %q, %v", s, again, err)
		}
	}
	if len(met) != 3 || met[api.OK] < 5000 || met[api.ErrBytes] < 5000 || met[api.ErrTxn] < 2000 {
		t.Errorf("the answers were %v", met)
	}
}

// P8.1: each byte of a transaction's bytes, changed in each way.
func TestOneByte(t *testing.T) {
	x := of(every()...)
	s := plainBytes(x)
	b := []byte(s)
	for at := range b {
		for by := 1; by < 256; by++ {
			b[at] ^= byte(by)
			want, wantErr := plainDecode(string(b))
			if got, err := txn.Decode(string(b)); !alike(got, want) || err != wantErr || alike(got, x) {
				t.Fatalf("byte %d by %d: %+v, %v; want %+v, %v", at, by, got, err, want, wantErr)
			}
			b[at] = s[at]
		}
	}
}

// P8.1: Same is of the bytes: the same just where they are.
func TestSameIsOfBytes(t *testing.T) {
	r := rand.New(rand.NewSource(4))
	same := 0
	for range 5000 {
		x := someTxn(r)
		y := txn.Copy(x)
		if y = spoilt(r, y); plainCheck(y) != api.OK {
			continue
		}
		want := plainBytes(x) == plainBytes(y)
		if txn.Same(x, y) != want || txn.Same(y, x) != want || txn.SameList([]api.Txn{x, y}, []api.Txn{x, x}) != want {
			t.Fatalf("Same of %+v and %+v isn't %v", x, y, want)
		}
		if want {
			same++
		}
	}
	if same < 50 {
		t.Errorf("%d were the same", same)
	}
}

// P8.1: transactions that are handed in stay as they are, their spare room too, and nothing of them is kept.
func TestHandedIn(t *testing.T) {
	bad := of(every()...)
	bad.Ops[7].N = 1
	for _, want := range []api.Txn{of(every()...), bad, of(), {Origin: 9}} {
		var m room
		x := m.txn(want)
		l := []api.Txn{x, x, x}
		err := txn.Check(x)
		s, err2 := txn.Encode(x)
		txn.Same(x, want)
		txn.SameList(l[:1], l[:2:2])
		c := txn.Copy(x)
		for _, o := range x.Ops {
			txn.Op(o, 2)
			txn.Key(o.Key)
			txn.Member(o.Elem)
		}
		if !alike(x, want) || !spareKept(x) || !alike(l[0], want) || !alike(l[1], want) || !alike(l[2], want) {
			t.Errorf("what was handed in became %+v, %+v", x, l)
		}
		m.change()
		clear(x.Ops[:cap(x.Ops)])
		if !alike(c, want) {
			t.Errorf("Copy of %+v, which was changed behind it: %+v", want, c)
		}
		if err != plainCheck(want) || err2 != err || err == api.OK && s != plainBytes(want) {
			t.Errorf("of %+v: %v, %q, %v", want, err, s, err2)
		}
	}
}

// P8.1: what Copy answers is memory of its own: changing it changes nothing that was handed in.
func TestCopyIsNew(t *testing.T) {
	x := of(every()...)
	c, d := txn.Copy(x), txn.Copy(x)
	for i := range c.Ops {
		c.Ops[i] = op(0, "?", "?", -1)
	}
	c.Ops = append(c.Ops, op(0, "?", "?", -1))
	c.Deps[0], c.Origin = 99, 7
	clear(c.Ops[:cap(c.Ops)])
	if !alike(x, of(every()...)) || !alike(d, x) {
		t.Errorf("it was changed by its copy: %+v, %+v", x, d)
	}
}

// P8.1: of bytes that are handed in nothing is kept; each answer is memory of its own.
func TestBytesHandedIn(t *testing.T) {
	want := of(every()...)
	var m room
	s := m.text(plainBytes(want))
	a, err := txn.Decode(s)
	b, err2 := txn.Decode(s)
	if s != plainBytes(want) {
		t.Error("the bytes that were handed in were changed")
	}
	m.change()
	clear(b.Ops[:cap(b.Ops)])
	if !alike(a, want) || err != api.OK || err2 != api.OK {
		t.Errorf("Decode of bytes that were changed behind it: %+v, %v, %v", a, err, err2)
	}
	again, err := txn.Decode(plainBytes(want))
	if !alike(again, want) || err != api.OK {
		t.Errorf("Decode once more: %+v, %v", again, err)
	}
}

// P8.1: several at one time.
func TestAtOneTime(t *testing.T) {
	want := of(every()...)
	done := make(chan bool)
	for range 8 {
		go func() {
			good := true
			for range 100 {
				s, _ := txn.Encode(want)
				back, err := txn.Decode(s)
				good = good && err == api.OK && alike(txn.Copy(back), want) && txn.Same(back, want)
			}
			done <- good
		}()
	}
	for range 8 {
		if !<-done {
			t.Error("one of eight answered otherwise")
		}
	}
}
