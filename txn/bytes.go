package txn

import (
	"slices"
	"strings"

	"levee/api"
	"levee/code"
)

// A transaction has headFields fields ahead of its operations, each of these has opFields; a number has numLen bytes.
const (
	headFields = 4
	opFields   = 4
	numLen     = 8
)

// fieldsOf: the fields of a transaction that may be, so that Origin and each Kind are a byte.
func fieldsOf(t api.Txn) []string {
	fields := []string{oneByte(t.Origin), code.Num(t.Seq), code.Num(t.Stamp), numsOf(t.Deps)}
	for _, o := range t.Ops {
		fields = append(fields, oneByte(o.Kind), o.Key, o.Elem, code.Num(uint64(o.N)))
	}
	return fields
}

// readTxn: the transaction that bytes of the form tell of, whether it may be or not.
func readTxn(s string) (api.Txn, bool) {
	fields, err := code.Unpack(s)
	if err != api.OK || len(fields) < headFields+opFields || (len(fields)-headFields)%opFields != 0 {
		return api.Txn{}, false
	}
	t, ok := readHead(fields[:headFields])
	if !ok {
		return api.Txn{}, false
	}
	for four := range slices.Chunk(fields[headFields:], opFields) {
		o, ok := readOp(four)
		if !ok {
			return api.Txn{}, false
		}
		t.Ops = append(t.Ops, o)
	}
	return t, true
}

// readHead: Origin, Seq, Stamp and Deps of their four fields.
func readHead(four []string) (api.Txn, bool) {
	seq, err1 := code.ReadNum(four[1])
	stamp, err2 := code.ReadNum(four[2])
	deps, ok := readNums(four[3])
	if len(four[0]) != 1 || err1 != api.OK || err2 != api.OK || !ok {
		return api.Txn{}, false
	}
	return api.Txn{Origin: int(four[0][0]), Seq: seq, Stamp: stamp, Deps: deps}, true
}

// readOp: the operation of its four fields.
func readOp(four []string) (api.Op, bool) {
	n, err := code.ReadNum(four[3])
	if len(four[0]) != 1 || err != api.OK {
		return api.Op{}, false
	}
	return api.Op{Kind: int(four[0][0]), Key: four[1], Elem: four[2], N: int64(n)}, true
}

func oneByte(n int) string { return string([]byte{byte(n)}) }

// numsOf: the eight numbers, one behind the other.
func numsOf(v api.Vector) string {
	var out strings.Builder
	for _, n := range v {
		out.WriteString(code.Num(n))
	}
	return out.String()
}

// readNums: the vector of eight such numbers.
func readNums(s string) (api.Vector, bool) {
	var v api.Vector
	if len(s) != numLen*len(v) {
		return api.Vector{}, false
	}
	for i := range v {
		v[i], _ = code.ReadNum(s[numLen*i : numLen*(i+1)]) // eight bytes, which are always a number's
	}
	return v, true
}
