package vote_test

import (
	"fmt"
	"math"
	"math/rand"
	"slices"
	"strings"
	"testing"
	"unsafe"

	"levee/api"
	"levee/vote"
)

const (
	lastRound = 1 << 60 // the greatest round
	top       = math.MaxUint64
)

// strangers: numbers that are no member.
var strangers = []int{-1, -8, 8, 9, 10, 15, 16, 64, 255, 256, 257, 1 << 16, 1 << 32, 1<<32 + 1, math.MaxInt, math.MinInt, math.MinInt + 1}

// setOf: the set of these members.
func setOf(members ...int) [8]bool {
	var set [8]bool
	for _, m := range members {
		set[m] = true
	}
	return set
}

// marked: the members of which the number has the bit.
func marked(bits int) []int {
	var l []int
	for m := range 8 {
		if bits>>m&1 == 1 {
			l = append(l, m)
		}
	}
	return l
}

// promised: a vote by which nothing was accepted, or this value by that ballot.
func promised(from int, ballot, at uint64, value string) api.Vote {
	return api.Vote{From: from, Ballot: ballot, At: at, Value: value}
}

// said: a vote for this value.
func said(from int, ballot uint64, value string) api.Vote {
	return api.Vote{From: from, Ballot: ballot, Value: value}
}

func votes(l ...api.Vote) []api.Vote { return l }

// acceptor: one that promised this, and accepted that.
func acceptor(promised, at uint64, value string) api.Acceptor {
	return api.Acceptor{Promised: promised, At: at, Value: value}
}

// plainPrepare is Prepare as the chapter's words tell it.
func plainPrepare(a api.Acceptor, ballot uint64) (api.Acceptor, bool) {
	if ballot <= a.Promised {
		return a, false
	}
	return acceptor(ballot, a.At, a.Value), true
}

// plainAccept is Accept as the chapter's words tell it.
func plainAccept(a api.Acceptor, ballot uint64, value string) (api.Acceptor, bool) {
	if ballot < a.Promised || ballot == 0 {
		return a, false
	}
	return acceptor(ballot, ballot, value), true
}

// plainMajority is Majority as the chapter's words tell it: are there more of the set that are among these than others of the set?
func plainMajority(set [8]bool, from []int) bool {
	among, others := 0, 0
	for m, in := range set {
		switch {
		case in && slices.Contains(from, m):
			among++
		case in:
			others++
		}
	}
	return among > others
}

// voters: whose votes these are.
func voters(l []api.Vote) []int {
	var from []int
	for _, v := range l {
		from = append(from, v.From)
	}
	return from
}

// those: the votes of which that holds.
func those(l []api.Vote, holds func(v api.Vote) bool) []api.Vote {
	return slices.DeleteFunc(slices.Clone(l), func(v api.Vote) bool { return !holds(v) })
}

// plainPick is Pick as the chapter's words tell it.
func plainPick(set [8]bool, ballot uint64, l []api.Vote, own string) (string, bool) {
	count := those(l, func(v api.Vote) bool { return v.Ballot == ballot && slices.Contains(marked(number(set)), v.From) })
	if !plainMajority(set, voters(count)) {
		return "", false
	}
	var ats []uint64
	for _, v := range count {
		ats = append(ats, v.At)
	}
	greatest := slices.Max(ats)
	if greatest == 0 {
		return own, true
	}
	return count[slices.Index(ats, greatest)].Value, true
}

// number: the set as a number whose bits are its members.
func number(set [8]bool) int {
	bits := 0
	for m, in := range set {
		if in {
			bits |= 1 << m
		}
	}
	return bits
}

// plainChosen is Chosen as the chapter's words tell it.
func plainChosen(set [8]bool, l []api.Vote) (string, bool) {
	for _, v := range l {
		alike := those(l, func(w api.Vote) bool { return w.Ballot == v.Ballot && w.Value == v.Value })
		if plainMajority(set, voters(alike)) {
			return v.Value, true
		}
	}
	return "", false
}

// short: what it holds, in few letters that may be printed.
func short(x any) string {
	return fmt.Sprintf("%.400s", strings.ToValidUTF8(fmt.Sprintf("%+v", x), "?"))
}

// prepares, accepts, counts, picks, chooses: the call answers that.
func prepares(t *testing.T, name string, a api.Acceptor, ballot uint64, want api.Acceptor, wantOK bool) {
	t.Helper()
	if got, ok := vote.Prepare(a, ballot); got != want || ok != wantOK {
		t.Errorf("%s: Prepare of %s, %d: %s, %v; want %s, %v", name, short(a), ballot, short(got), ok, short(want), wantOK)
	}
}

func accepts(t *testing.T, name string, a api.Acceptor, ballot uint64, value string, want api.Acceptor, wantOK bool) {
	t.Helper()
	if got, ok := vote.Accept(a, ballot, value); got != want || ok != wantOK {
		t.Errorf("%s: Accept of %s, %d, %.40q: %s, %v; want %s, %v", name, short(a), ballot, value, short(got), ok, short(want), wantOK)
	}
}

func counts(t *testing.T, name string, set [8]bool, from []int, want bool) {
	t.Helper()
	if got := vote.Majority(set, from); got != want {
		t.Errorf("%s: Majority of %v, %s: %v; want %v", name, marked(number(set)), short(from), got, want)
	}
}

func picks(t *testing.T, name string, set [8]bool, ballot uint64, l []api.Vote, own, want string, wantOK bool) {
	t.Helper()
	if got, ok := vote.Pick(set, ballot, l, own); got != want || ok != wantOK {
		t.Errorf("%s: Pick of %v, %d, %s, %q: %.40q, %v; want %q, %v", name, marked(number(set)), ballot, short(l), own, got, ok, want, wantOK)
	}
}

func chooses(t *testing.T, name string, set [8]bool, l []api.Vote, want string, wantOK bool) {
	t.Helper()
	if got, ok := vote.Chosen(set, l); got != want || ok != wantOK {
		t.Errorf("%s: Chosen of %v, %s: %.40q, %v; want %q, %v", name, marked(number(set)), short(l), got, ok, want, wantOK)
	}
}

// one: one of these.
func one[T any](r *rand.Rand, l ...T) T { return l[r.Intn(len(l))] }

// someNumber: a ballot, mostly one that others are near to.
func someNumber(r *rand.Rand) uint64 {
	return one(r, uint64(r.Intn(4)), uint64(r.Intn(4)), uint64(r.Intn(40)), 1<<32+uint64(r.Intn(2)), 1<<63-1+uint64(r.Intn(2)), top-uint64(r.Intn(2)), r.Uint64())
}

// someValue: a text, mostly one that others are like.
func someValue(r *rand.Rand) string {
	return one(r, "", "a", "b", "a", "b", "ab", "a\x00", "\xff", strings.Repeat("a", r.Intn(40)))
}

// someSet: a set of any size.
func someSet(r *rand.Rand) [8]bool {
	var set [8]bool
	for _, m := range r.Perm(8)[:r.Intn(9)] {
		set[m] = true
	}
	return set
}

// someVoter: mostly a member.
func someVoter(r *rand.Rand) int {
	if r.Intn(8) == 0 {
		return one(r, strangers...)
	}
	return r.Intn(8)
}

// someVotes: votes mostly of few Ballots, Ats and Values, so that majorities and others are met.
func someVotes(r *rand.Rand) []api.Vote {
	wide := r.Intn(4) == 0
	var l []api.Vote
	for range r.Intn(16) {
		v := promised(someVoter(r), uint64(r.Intn(2)), uint64(r.Intn(3)), one(r, "", "a", "b"))
		if wide {
			v = promised(someVoter(r), someNumber(r), someNumber(r), someValue(r))
		}
		l = append(l, v)
	}
	return l
}

// A room holds texts in bytes that can be changed behind the back of whoever kept one of them.
type room struct{ parts [][]byte }

func (m *room) text(s string) string {
	if s == "" {
		return ""
	}
	b := []byte(s)
	m.parts = append(m.parts, b)
	return unsafe.String(&b[0], len(b))
}

// change: all texts in the room become others.
func (m *room) change() {
	for _, b := range m.parts {
		copy(b, strings.Repeat("?", len(b)))
	}
}

// What lies behind the lists that a room makes.
var (
	spareVote   = api.Vote{From: -77, Ballot: 7, At: 7, Value: "spare"}
	spareMember = -77
)

// acceptor: the same acceptor, its text in the room.
func (m *room) acceptor(a api.Acceptor) api.Acceptor {
	a.Value = m.text(a.Value)
	return a
}

// votes: the same votes, their texts in the room, with spare room behind them.
func (m *room) votes(l []api.Vote) []api.Vote {
	out := make([]api.Vote, 0, len(l)+1)
	for _, v := range l {
		v.Value = m.text(v.Value)
		out = append(out, v)
	}
	out[:cap(out)][len(out)] = spareVote
	return out
}

// members: the same numbers, with spare room behind them.
func (m *room) members(l []int) []int {
	out := append(make([]int, 0, len(l)+1), l...)
	out[:cap(out)][len(out)] = spareMember
	return out
}
