package txn_test

import (
	"fmt"
	"slices"
	"strings"
	"testing"

	"levee/api"
	"levee/txn"
)

// P8.1: bytes written out by hand.
func TestBytes(t *testing.T) {
	x := api.Txn{
		Origin: 1, Seq: 0x0102, Stamp: 0xfffefdfcfbfaf9f8, Deps: api.Vector{3, 0x0101, 0, 0, 0, 0, 0, 1 << 63},
		Ops: []api.Op{op(api.Give, "b", "7", most), op(api.Add, "s/1", "\xff\x00", 0)},
	}
	want := "\x00\x00\x00\x0c" +
		"\x00\x00\x00\x01" + "\x01" +
		"\x00\x00\x00\x08" + "\x00\x00\x00\x00\x00\x00\x01\x02" +
		"\x00\x00\x00\x08" + "\xff\xfe\xfd\xfc\xfb\xfa\xf9\xf8" +
		"\x00\x00\x00\x40" +
		"\x00\x00\x00\x00\x00\x00\x00\x03" + "\x00\x00\x00\x00\x00\x00\x01\x01" + strings.Repeat("\x00", 40) + "\x80\x00\x00\x00\x00\x00\x00\x00" +
		"\x00\x00\x00\x01" + "\x03" + "\x00\x00\x00\x01" + "b" + "\x00\x00\x00\x01" + "7" + "\x00\x00\x00\x08" + "\x00\x00\x01\x00\x00\x00\x00\x00" +
		"\x00\x00\x00\x01" + "\x04" + "\x00\x00\x00\x03" + "s/1" + "\x00\x00\x00\x02" + "\xff\x00" + "\x00\x00\x00\x08" + "\x00\x00\x00\x00\x00\x00\x00\x00"
	if s, err := txn.Encode(x); s != want || err != api.OK {
		t.Errorf("Encode: %q, %v; want %q", s, err, want)
	}
	if back, err := txn.Decode(want); !alike(back, x) || err != api.OK {
		t.Errorf("Decode: %+v, %v", back, err)
	}
}

// laidBytes: the bytes with the field at a place changed.
func laidBytes(x api.Txn, at int, field string) string {
	fields := plainFields(x)
	fields[at] = field
	return packOf(fields...)
}

// P8.1: bytes that are of no form at all.
func TestNoForm(t *testing.T) {
	x := of(every()...)
	own := plainBytes(x)
	for n := range len(own) {
		refused(t, fmt.Sprint("the first ", n, " bytes"), own[:n], api.ErrBytes)
	}
	for _, s := range []string{
		"", "\x00", "\x00\x00\x00\x00", "\xff\xff\xff\xff", "x", "0.1", own + "\x00", own + "x", own + own, "\x00" + own, own[1:],
		packOf(), packOf(""), packOf(own), packOf("", "", "", ""), packOf("", "", "", "", "", "", "", ""), packOf(packOf()),
		strings.Repeat("\x00", 1<<16), strings.Repeat("\x00", 1<<20), strings.Repeat("\xff", 1<<21), own + strings.Repeat("\x00", 1<<20),
	} {
		refused(t, "no form", s, api.ErrBytes)
	}
}

// P8.1: fields too few and too many, and without an operation.
func TestFieldCounts(t *testing.T) {
	for _, x := range []api.Txn{of(every()[:1]...), of(every()[:3]...), of(every()...)} {
		fields := plainFields(x)
		for n := range len(fields) {
			s := packOf(fields[:n]...)
			if n >= 8 && n%4 == 0 { // a transaction of fewer operations
				if back, err := txn.Decode(s); !alike(back, of(x.Ops[:n/4-1]...)) || err != api.OK {
					t.Errorf("Decode of the first %d fields: %+v, %v", n, back, err)
				}
				continue
			}
			refused(t, fmt.Sprint("the first ", n, " fields"), s, api.ErrBytes)
		}
		for at := range len(fields) + 1 {
			for _, f := range []string{"", "\x01", "a", numOf(1)} {
				refused(t, fmt.Sprint("one field more at ", at), packOf(slices.Insert(slices.Clone(fields), at, f)...), api.ErrBytes)
			}
			if at < len(fields) {
				refused(t, fmt.Sprint("without field ", at), packOf(slices.Delete(slices.Clone(fields), at, at+1)...), api.ErrBytes)
			}
		}
		for n := 1; n < 4; n++ {
			refused(t, fmt.Sprint(n, " fields more"), packOf(append(slices.Clone(fields), fields[4:4+n]...)...), api.ErrBytes)
			refused(t, fmt.Sprint("without ", n, " fields"), packOf(fields[:len(fields)-n]...), api.ErrBytes)
		}
	}
	refused(t, "no operation", plainBytes(of()), api.ErrBytes)
	refused(t, "no operation, and an Origin that is no member", plainBytes(api.Txn{Origin: 9}), api.ErrBytes)
}

// P8.1: fields of a wrong size, each in turn; the error is ErrBytes also where the rest may not be.
func TestFieldSizes(t *testing.T) {
	good, bad := of(every()...), of(every()...)
	bad.Stamp, bad.Ops[7].Kind = 0, 9
	number := []string{"", "\x00", "\x05", numOf(5)[1:], numOf(5) + "\x00", "\x00" + numOf(5), numOf(5) + numOf(5), strings.Repeat("\x00", 16)}
	single := []string{"", "\x01\x00", "\x00\x01", "\x01\x01", numOf(1), strings.Repeat("\x01", 3), strings.Repeat("\x01", 1<<16)}
	deps := plainFields(good)[3]
	vector := []string{
		"", deps[:56], deps + numOf(0), deps[1:], deps[:63], deps + "\x00", "\x00" + deps, numOf(4), strings.Repeat("\x00", 72), strings.Repeat("\x00", 128), deps + deps,
	}
	for _, x := range []api.Txn{good, bad} {
		for at := range plainFields(x) {
			wrong := []string{}
			switch {
			case at == 0 || at >= 4 && at%4 == 0:
				wrong = single
			case at == 1 || at == 2 || at >= 4 && at%4 == 3:
				wrong = number
			case at == 3:
				wrong = vector
			}
			for _, f := range wrong {
				refused(t, fmt.Sprint("field ", at), laidBytes(x, at, f), api.ErrBytes)
			}
		}
	}
	refused(t, "a Key above MaxField", laidBytes(good, 5, strings.Repeat("a", 1<<16+1)), api.ErrBytes)
	refused(t, "an Elem above MaxField", laidBytes(good, 6, strings.Repeat("a", 1<<16+1)), api.ErrBytes)
	refused(t, "a field of MaxField that is no number", laidBytes(good, 7, strings.Repeat("a", 1<<16)), api.ErrBytes)
}

// P8.1: bytes of the form that tell of a transaction that may not be.
func TestFormOfNoTxn(t *testing.T) {
	good := of(every()...)
	for origin := range 256 {
		x := with(func(x *api.Txn) { x.Origin, x.Seq, x.Deps = origin, 1, api.Vector{} })
		if origin < 8 {
			mayBe(t, "an Origin", x)
			continue
		}
		refused(t, fmt.Sprint("Origin ", origin), plainBytes(x), api.ErrTxn)
	}
	for kind := range 256 {
		if kind < 1 || kind > 8 {
			refused(t, fmt.Sprint("Kind ", kind, " with N"), plainBytes(of(op(kind, "a", "", 1))), api.ErrTxn)
			refused(t, fmt.Sprint("Kind ", kind), plainBytes(of(op(kind, "a", "", 0))), api.ErrTxn)
		}
	}
	for name, x := range map[string]api.Txn{
		"Seq 0":                        with(func(x *api.Txn) { x.Seq, x.Deps[2] = 0, 0 }),
		"Seq 0, Deps that wrap round":  with(func(x *api.Txn) { x.Seq, x.Deps[2] = 0, top }),
		"Stamp 0":                      with(func(x *api.Txn) { x.Stamp = 0 }),
		"own Deps one more":            with(func(x *api.Txn) { x.Deps[2] = 5 }),
		"own Deps one less":            with(func(x *api.Txn) { x.Deps[2] = 3 }),
		"9 operations":                 of(append(every(), every()[0])...),
		"1023 operations":              of(slices.Repeat(every()[:1], 1023)...),
		"all noughts, an operation":    {Ops: make([]api.Op, 1)},
		"no key":                       of(op(api.Inc, "", "", 1)),
		"a key of 33 bytes":            of(op(api.Inc, strings.Repeat("k", 33), "", 1)),
		"a key of MaxField":            of(op(api.Inc, strings.Repeat("k", 1<<16), "", 1)),
		"a key with a great letter":    of(op(api.Inc, "aB", "", 1)),
		"an elem of 33 bytes":          of(op(api.Write, "k", strings.Repeat("e", 33), 0)),
		"an elem of MaxField":          of(op(api.Add, "k", strings.Repeat("e", 1<<16), 0)),
		"an elem where none may stand": of(op(api.On, "k", "x", 0)),
		"a Give to the giver":          of(op(api.Give, "k", "2", 1)),
		"a Give to nobody":             of(op(api.Give, "k", "8", 1)),
	} {
		refused(t, name, plainBytes(x), api.ErrTxn)
		for _, n := range amounts {
			if n < 0 {
				below := txn.Copy(x)
				below.Ops[len(below.Ops)-1].N = n
				refused(t, name+", and an N below nothing", plainBytes(below), api.ErrTxn)
			}
		}
	}
	refused(t, "1024 operations", plainBytes(of(slices.Repeat(every()[:1], 1024)...)), api.ErrBytes)
	for at := range good.Ops {
		for _, n := range amounts {
			x := of(every()...)
			x.Ops[at].N = n
			if plainCheck(x) == api.OK {
				mayBe(t, "an N", x)
				continue
			}
			refused(t, fmt.Sprint("operation ", at, " with ", n), plainBytes(x), api.ErrTxn)
		}
	}
}

// P8.1: N is read as the same 64 bits, so bytes of a number below nothing never pass for a great one.
func TestBelowNothing(t *testing.T) {
	for kind := 1; kind <= 8; kind++ {
		elem := ""
		if kind == api.Give {
			elem = "7"
		}
		for _, bytes := range []string{
			strings.Repeat("\xff", 8), "\xff\xff\xff\xff\xff\xff\xff\xfe", "\x80" + strings.Repeat("\x00", 7), "\x80\x00\x00\x00\x00\x00\x00\x01",
			"\xff\xff\xff\x00\x00\x00\x00\x00", "\xff\xff\xfe\xff\xff\xff\xff\xff", "\x80\x00\x01\x00\x00\x00\x00\x00",
		} {
			refused(t, fmt.Sprint("Kind ", kind), laidBytes(of(op(kind, "a", elem, 1)), 7, bytes), api.ErrTxn)
		}
	}
}
