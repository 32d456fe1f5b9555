package txn_test

import (
	"encoding/binary"
	"math"
	"regexp"
	"slices"
	"strings"
	"testing"
	"unsafe"

	"levee/api"
	"levee/txn"
)

const (
	most = 1 << 40 // the greatest N that Inc, Dec and Give may have
	top  = math.MaxUint64
)

// packOf, numOf: as the words of chapter 1 tell them, of any length.
func packOf(fields ...string) string {
	b := binary.BigEndian.AppendUint32(nil, uint32(len(fields)))
	for _, f := range fields {
		b = append(binary.BigEndian.AppendUint32(b, uint32(len(f))), f...)
	}
	return string(b)
}

func numOf(n uint64) string { return string(binary.BigEndian.AppendUint64(nil, n)) }

// plainFields: the fields that the words of chapter 8 give a transaction, whether it may be or not.
func plainFields(t api.Txn) []string {
	deps := ""
	for _, n := range t.Deps {
		deps += numOf(n)
	}
	fields := []string{string([]byte{byte(t.Origin)}), numOf(t.Seq), numOf(t.Stamp), deps}
	for _, o := range t.Ops {
		fields = append(fields, string([]byte{byte(o.Kind)}), o.Key, o.Elem, numOf(uint64(o.N)))
	}
	return fields
}

func plainBytes(t api.Txn) string { return packOf(plainFields(t)...) }

var plainKey = regexp.MustCompile(`\A[a-z0-9/]{1,32}\z`)

// plainMembers: the members' words, the number of each its place.
var plainMembers = []string{"0", "1", "2", "3", "4", "5", "6", "7"}

// plainOp is Op as the chapter's words tell it.
func plainOp(o api.Op, origin int) bool {
	if !plainKey.MatchString(o.Key) || len(o.Elem) > 32 {
		return false
	}
	counted := o.N > 0 && o.N < most+1
	switch o.Kind {
	case 1, 2:
		return counted && len(o.Elem) == 0
	case 3:
		at := slices.Index(plainMembers, o.Elem)
		return counted && at != -1 && at != origin
	case 4, 5, 6:
		return o.N == 0
	case 7, 8:
		return o.N == 0 && len(o.Elem) == 0
	}
	return false
}

// plainCheck is Check as the chapter's words tell it.
func plainCheck(t api.Txn) api.Errno {
	if !slices.Contains([]int{0, 1, 2, 3, 4, 5, 6, 7}, t.Origin) || t.Seq == 0 || t.Stamp == 0 || t.Deps[t.Origin]+1 != t.Seq {
		return api.ErrTxn
	}
	if len(t.Ops) == 0 || len(t.Ops) > 8 {
		return api.ErrTxn
	}
	if slices.ContainsFunc(t.Ops, func(o api.Op) bool { return !plainOp(o, t.Origin) }) {
		return api.ErrTxn
	}
	return api.OK
}

// plainUnpack: the fields of which s is the Pack, if it is one.
func plainUnpack(s string) ([]string, bool) {
	if len(s) < 4 || len(s) > 1<<20 {
		return nil, false
	}
	n := binary.BigEndian.Uint32([]byte(s))
	if n > 4096 {
		return nil, false
	}
	s = s[4:]
	var l []string
	for range n {
		if len(s) < 4 {
			return nil, false
		}
		size := uint64(binary.BigEndian.Uint32([]byte(s)))
		if size > 1<<16 || size > uint64(len(s)-4) {
			return nil, false
		}
		l, s = append(l, s[4:4+size]), s[4+size:]
	}
	return l, s == ""
}

// plainDecode is Decode as the chapter's words tell it: the sizes of the fields tell whether the bytes are of the form.
func plainDecode(s string) (api.Txn, api.Errno) {
	fields, ok := plainUnpack(s)
	if !ok || len(fields) < 8 || len(fields)%4 != 0 {
		return api.Txn{}, api.ErrBytes
	}
	free := -1 // Key and Elem may have any size here
	for i, f := range fields {
		want := []int{1, free, free, 8}[i%4]
		if i < 4 {
			want = []int{1, 8, 8, 64}[i]
		}
		if want != free && len(f) != want {
			return api.Txn{}, api.ErrBytes
		}
	}
	num := func(s string) uint64 { return binary.BigEndian.Uint64([]byte(s)) }
	t := api.Txn{Origin: int(fields[0][0]), Seq: num(fields[1]), Stamp: num(fields[2])}
	for i := range t.Deps {
		t.Deps[i] = num(fields[3][8*i:])
	}
	for i := 4; i < len(fields); i += 4 {
		t.Ops = append(t.Ops, api.Op{Kind: int(fields[i][0]), Key: fields[i+1], Elem: fields[i+2], N: int64(num(fields[i+3]))})
	}
	if plainCheck(t) != api.OK {
		return api.Txn{}, api.ErrTxn
	}
	return t, api.OK
}

// alike: the same in all, one by one.
func alike(a, b api.Txn) bool {
	return a.Origin == b.Origin && a.Seq == b.Seq && a.Stamp == b.Stamp && a.Deps == b.Deps && slices.Equal(a.Ops, b.Ops)
}

func none(t api.Txn) bool { return alike(t, api.Txn{}) }

func op(kind int, key, elem string, n int64) api.Op {
	return api.Op{Kind: kind, Key: key, Elem: elem, N: n}
}

// of: the transaction of member 2 with number 5 that has these operations.
func of(ops ...api.Op) api.Txn {
	return api.Txn{Origin: 2, Seq: 5, Stamp: 9, Deps: api.Vector{1, 0, 4, 0, 0, 3, 0, 7}, Ops: ops}
}

// with: a transaction of one operation, changed by f.
func with(f func(t *api.Txn)) api.Txn {
	t := of(op(api.Inc, "a", "", 5))
	f(&t)
	return t
}

// every: for each Kind an operation of member 2 that may be.
func every() []api.Op {
	return []api.Op{
		op(api.Inc, "a", "", 1), op(api.Dec, "b/0", "", most), op(api.Give, "c", "7", 77), op(api.Add, "d", "x", 0),
		op(api.Remove, "e", "", 0), op(api.Write, "f", "\x00\xff", 0), op(api.On, "g", "", 0), op(api.Off, "9", "", 0),
	}
}

// mayBe: the transaction may be, has just its plain bytes, and they are read the same.
func mayBe(t *testing.T, name string, x api.Txn) {
	t.Helper()
	if err := txn.Check(x); err != api.OK {
		t.Errorf("%s: Check of %+v: %v", name, x, err)
	}
	s, err := txn.Encode(x)
	if s != plainBytes(x) || err != api.OK {
		t.Errorf("%s: Encode of %+v: %q, %v", name, x, s, err)
	}
	if back, err := txn.Decode(plainBytes(x)); !alike(back, x) || err != api.OK {
		t.Errorf("%s: Decode of the bytes of %+v: %+v, %v", name, x, back, err)
	}
}

// mayNot: the transaction may not be, and has no bytes.
func mayNot(t *testing.T, name string, x api.Txn) {
	t.Helper()
	if err := txn.Check(x); err != api.ErrTxn {
		t.Errorf("%s: Check of %+v: %v", name, x, err)
	}
	if s, err := txn.Encode(x); s != "" || err != api.ErrTxn {
		t.Errorf("%s: Encode of %+v: %q, %v", name, x, s, err)
	}
}

// refused: Decode of the bytes answers this error, and nothing beside it.
func refused(t *testing.T, name, s string, want api.Errno) {
	t.Helper()
	if x, err := txn.Decode(s); !none(x) || err != want {
		t.Errorf("%s: Decode of %.300q: %+v, %v; want %v", name, s, x, err, want)
	}
}

// A room holds texts in bytes that can be changed behind the back of whoever kept one of them.
type room struct{ parts [][]byte }

func (m *room) text(s string) string {
	if s == "" {
		return ""
	}
	b := []byte(s)
	m.parts = append(m.parts, b)
	return unsafe.String(&b[0], len(b))
}

// txn: the same transaction, its texts in the room, its list with spare room behind it.
func (m *room) txn(t api.Txn) api.Txn {
	ops := make([]api.Op, 0, len(t.Ops)+3)
	for _, o := range t.Ops {
		ops = append(ops, op(o.Kind, m.text(o.Key), m.text(o.Elem), o.N))
	}
	spare := ops[len(ops):cap(ops)]
	for i := range spare {
		spare[i] = op(77, "spare", "room", -7)
	}
	t.Ops = ops
	return t
}

// spareKept: is what lies behind the list as txn laid it there?
func spareKept(t api.Txn) bool {
	spare := t.Ops[len(t.Ops):cap(t.Ops)]
	return len(spare) == 3 && !slices.ContainsFunc(spare, func(o api.Op) bool { return o != op(77, "spare", "room", -7) })
}

func (m *room) change() {
	for _, b := range m.parts {
		copy(b, strings.Repeat("?", len(b)))
	}
}
