package lsm

import (
	"slices"
	"strings"

	"levee/api"
	"levee/code"
	"levee/disk"
)

// The names of files begin with these; a generation has genLetters letters behind logLetter.
const (
	manifest    = "m"
	tablePrefix = "t"
	logLetter   = "w"
	genLetters  = 5
	letters     = 26
)

// The manifest tells of a table, of which the name has tableName bytes, by one of two letters.
const (
	flushedLetter = "t" // it comes behind the others
	mergedLetter  = "c" // it stands for all others
	tableName     = 8
)

// logPrefix: the prefix of the log of a generation.
func logPrefix(gen int) string {
	var text [genLetters]byte
	for at := genLetters - 1; at >= 0; at-- {
		digit := gen % letters
		if digit < 0 { // no store comes to such a generation, but an answer has to come
			digit = -digit
		}
		text[at] = 'a' + byte(digit)
		gen /= letters
	}
	return logLetter + string(text[:])
}

// markOf: the letter and the table's name of a manifest's record.
func markOf(record string) (letter, name string, ok bool) {
	fields, err := code.Unpack(record)
	if err != api.OK || len(fields) != 2 {
		return "", "", false
	}
	letter, name = fields[0], fields[1]
	if letter != flushedLetter && letter != mergedLetter {
		return "", "", false
	}
	if len(name) != tableName || !disk.Name(name) || !strings.HasPrefix(name, tablePrefix) {
		return "", "", false
	}
	return letter, name, true
}

// stray: is it the name of a file that the store doesn't use?
func (s *draft) stray(name string) bool {
	return disk.Name(name) &&
		!behind(manifest, name) &&
		!behind(logPrefix(s.Gen), name) &&
		!slices.Contains(s.Tables, name)
}

// behind: is the name the prefix, a point and more?
func behind(prefix, name string) bool {
	rest, ok := strings.CutPrefix(name, prefix+".")
	return ok && rest != ""
}
