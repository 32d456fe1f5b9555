package code

import (
	"strings"

	"levee/api"
)

// headLen is what a frame has ahead of its string: the length and the sum, in short.
const headLen = 2 * shortLen

// Frame: the frame of s.
func Frame(s string) (string, api.Errno) {
	if len(s) > api.MaxField {
		return "", api.ErrLong
	}
	length := short(uint32(len(s)))
	return length + short(frameSum(length, s)) + s, api.OK
}

// Scan: the strings of the whole frames at the beginning of s, and how many bytes these are.
func Scan(s string) ([]string, int) {
	var whole []string
	at := 0
	for {
		body, ok := firstFrame(s[at:])
		if !ok {
			return whole, at
		}
		whole = append(whole, strings.Clone(body))
		at += headLen + len(body)
	}
}

// firstFrame: the string of the frame at the beginning of s.
func firstFrame(s string) (string, bool) {
	if len(s) < headLen {
		return "", false
	}
	n, rest := readShort(s), s[headLen:]
	// The length is held against MaxField first: beyond it an int might not hold it.
	if n > api.MaxField || int(n) > len(rest) {
		return "", false
	}
	body := rest[:n]
	if readShort(s[shortLen:]) != frameSum(s[:shortLen], body) {
		return "", false
	}
	return body, true
}

// frameSum: the sum of a frame's length bytes and its string, without laying them together.
func frameSum(length, body string) uint32 {
	return ^sumOn(sumOn(sumStart, length), body)
}
