package wal

import (
	"strings"

	"levee/api"
)

// A prefix has at most maxPrefix letters, a segment's number just digits digits.
const (
	maxPrefix  = 8
	digits     = 6
	numbers    = 1_000_000
	lastNumber = numbers - 1
)

// prefix: may p be a log's prefix?
func prefix(p string) bool {
	if p == "" || len(p) > maxPrefix {
		return false
	}
	for i := range len(p) {
		if p[i] < 'a' || p[i] > 'z' {
			return false
		}
	}
	return true
}

// Name: the name of segment i, of which the last six digits count.
func Name(p string, i int) string {
	var number [digits]byte
	rest := i % numbers
	if rest < 0 { // nobody asks for such an i, but an answer has to come
		rest = -rest
	}
	for at := digits - 1; at >= 0; at-- {
		number[at] = '0' + byte(rest%10)
		rest /= 10
	}
	return p + "." + string(number[:])
}

// number: the number of the segment of p that has this name, if there may be one.
func number(p, name string) (int, bool) {
	rest, ok := strings.CutPrefix(name, p+".")
	if !ok || len(rest) != digits {
		return 0, false
	}
	n := 0
	for i := range len(rest) {
		if rest[i] < '0' || rest[i] > '9' {
			return 0, false
		}
		n = n*10 + int(rest[i]-'0')
	}
	return n, true
}

// segments: the log's files from number 0 on, up to the first number that isn't there.
func segments(d api.Disk, p string) []api.File {
	// Of n files none can have a number from n on without a gap ahead of it.
	log := make([]api.File, len(d.Files))
	for _, f := range d.Files {
		i, ok := number(p, f.Name)
		// The first file of a name counts; a place that is free has no name.
		if ok && i < len(log) && log[i].Name == "" {
			log[i] = f
		}
	}
	for i, f := range log {
		if f.Name == "" {
			return log[:i]
		}
	}
	return log
}

// fits: may the frame come into this file?
func fits(f api.File, frame string) bool {
	size := len(f.Kept) + len(f.Loose)
	return size == 0 || size <= api.MaxSeg-len(frame)
}
