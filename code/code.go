// Package code is layer 1, numbers, fields, sums and frames as bytes: see shared/doc/01-code.md.
package code

import (
	"strings"

	"levee/api"
)

// A short is four bytes, a number eight.
const (
	shortLen = 4
	numLen   = 8
)

// Num: a number as eight bytes, the greatest first.
func Num(n uint64) string {
	var out [numLen]byte
	for i := range out {
		out[numLen-1-i] = byte(n >> (8 * i))
	}
	return string(out[:])
}

// ReadNum: the number of such eight bytes.
func ReadNum(s string) (uint64, api.Errno) {
	if len(s) != numLen {
		return 0, api.ErrBytes
	}
	n := uint64(0)
	for i := range len(s) {
		n = n<<8 | uint64(s[i])
	}
	return n, api.OK
}

// Pack: how many fields, then each with its length ahead.
func Pack(fields []string) (string, api.Errno) {
	if len(fields) > api.MaxFields {
		return "", api.ErrLong
	}
	size := shortLen
	for _, f := range fields {
		if len(f) > api.MaxField {
			return "", api.ErrLong
		}
		size += shortLen + len(f)
	}
	if size > api.MaxBytes {
		return "", api.ErrLong
	}
	var out strings.Builder
	out.Grow(size)
	out.WriteString(short(uint32(len(fields))))
	for _, f := range fields {
		out.WriteString(short(uint32(len(f))))
		out.WriteString(f)
	}
	return out.String(), api.OK
}

// Unpack: the fields of which s is Pack.
func Unpack(s string) ([]string, api.Errno) {
	// Pack never makes more than MaxBytes, so longer bytes are none of its.
	if len(s) < shortLen || len(s) > api.MaxBytes {
		return nil, api.ErrBytes
	}
	count, rest := readShort(s), s[shortLen:]
	if count > api.MaxFields {
		return nil, api.ErrBytes
	}
	fields := make([]string, 0, count)
	for range count {
		field, ok := firstField(rest)
		if !ok {
			return nil, api.ErrBytes
		}
		fields = append(fields, strings.Clone(field))
		rest = rest[shortLen+len(field):]
	}
	if rest != "" {
		return nil, api.ErrBytes
	}
	return fields, api.OK
}

// firstField: the field whose length stands at the beginning of s.
func firstField(s string) (string, bool) {
	if len(s) < shortLen {
		return "", false
	}
	n, rest := readShort(s), s[shortLen:]
	if n > api.MaxField || int(n) > len(rest) {
		return "", false
	}
	return rest[:n], true
}

// short: a number as four bytes, the greatest first.
func short(n uint32) string {
	return string([]byte{byte(n >> 24), byte(n >> 16), byte(n >> 8), byte(n)})
}

// readShort: the number of the first four bytes of s, which has as many.
func readShort(s string) uint32 {
	return uint32(s[0])<<24 | uint32(s[1])<<16 | uint32(s[2])<<8 | uint32(s[3])
}
