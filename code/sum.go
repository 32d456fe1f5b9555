package code

import (
	"sync"
	"sync/atomic"
)

// halves tells what four of a byte's eight turns make of the lowest four bits:
// two looks into it do the work of eight turns, and it is short enough to stand here.
var halves = [16]uint32{
	0x00000000, 0x1db71064, 0x3b6e20c8, 0x26d930ac,
	0x76dc4190, 0x6b6b51f4, 0x4db26158, 0x5005713c,
	0xedb88320, 0xf00f9344, 0xd6d6a3e8, 0xcb61b38c,
	0x9b64c2b0, 0x86d3d2d4, 0xa00ae278, 0xbdbdf21c,
}

// sumStart is the sum's number ahead of the first byte.
const sumStart = ^uint32(0)

// Sum: the sum of all bytes of s.
func Sum(s string) uint32 { return ^sumOn(sumStart, s) }

// sumOn: the sum's number n behind the bytes of s too, so that a sum can run over pieces.
func sumOn(n uint32, s string) uint32 {
	for i := range len(s) {
		n = turned(n ^ uint32(s[i]))
	}
	return n
}

// turned: n behind eight turns.
func turned(n uint32) uint32 {
	n = n>>4 ^ halves[n&15]
	return n>>4 ^ halves[n&15]
}

// A Book tells sums by a table that it makes at its first Sum, once.
type Book struct {
	once  sync.Once
	made  atomic.Int64
	table [256]uint32
}

// Sum: as the function Sum.
func (b *Book) Sum(s string) uint32 {
	if b == nil { // it has no room for a table, and no call may panic
		return Sum(s)
	}
	b.once.Do(b.fill)
	n := sumStart
	for i := range len(s) {
		n = n>>8 ^ b.table[byte(n)^s[i]]
	}
	return ^n
}

// Made: how often the table was made.
func (b *Book) Made() int64 {
	if b == nil {
		return 0
	}
	return b.made.Load()
}

func (b *Book) fill() {
	for i := range b.table {
		b.table[i] = turned(uint32(i))
	}
	b.made.Add(1)
}
