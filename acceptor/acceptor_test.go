package acceptor_test

import (
	"bytes"
	"fmt"
	"math"
	"math/big"
	"math/rand"
	"slices"
	"strconv"
	"testing"

	"notcher/acceptor"
	"notcher/api"
)

const (
	top       = uint64(math.MaxUint64)
	mostValue = 32768 // bytes of a Value that is got
)

// behind is what stands in the room behind a Value that is handed in.
const behind = "behind"

// vote is a vote, with some room behind its Value.
func vote(slot, ballot uint64, value string) acceptor.Vote {
	room := []byte(value + behind)
	return acceptor.Vote{Slot: slot, Ballot: ballot, Value: room[:len(value)]}
}

// isRoomLeft wants what stands in the room behind Values to be there still.
func isRoomLeft(t *testing.T, l []acceptor.Vote) {
	t.Helper()
	for _, v := range l {
		n := len(v.Value)
		if got := string(v.Value[n : n+len(behind)]); got != behind {
			t.Errorf("behind the Value of %s stands %q", told(v), got)
		}
	}
}

// votes are a list of votes.
func votes(l ...acceptor.Vote) []acceptor.Vote { return l }

// told is a vote as a text.
func told(v acceptor.Vote) string {
	return fmt.Sprintf("%d under %d: %q", v.Slot, v.Ballot, v.Value)
}

// same tells whether two votes are one, where nil and empty Values are.
func same(a, b acceptor.Vote) bool {
	return a.Slot == b.Slot && a.Ballot == b.Ballot && bytes.Equal(a.Value, b.Value)
}

// deep is a list that shares nothing with l.
func deep(l []acceptor.Vote) []acceptor.Vote {
	var c []acceptor.Vote
	for _, v := range l {
		c = append(c, vote(v.Slot, v.Ballot, string(v.Value)))
	}
	return c
}

// spoil changes a list, all its Values, and what room there is behind them.
func spoil(l []acceptor.Vote) {
	for i := range l {
		spoilBytes(l[i].Value)
		l[i] = vote(77, 77, "spoiled")
	}
	_ = append(l, vote(78, 78, "spoiled"))
}

// spoilBytes changes bytes, and the room behind them.
func spoilBytes(b []byte) {
	b = b[:cap(b)]
	for i := range b {
		b[i] ^= 255
	}
}

// isErr wants this error.
func isErr(t *testing.T, what string, got, want api.Errno) {
	t.Helper()
	if got != want {
		t.Errorf("%s: got error %d, want %d", what, got, want)
	}
}

// isVotes wants these votes.
func isVotes(t *testing.T, what string, got, want []acceptor.Vote) {
	t.Helper()
	if !slices.EqualFunc(got, want, same) {
		t.Errorf("%s: got %v, want %v", what, got, want)
	}
}

// isPrepare wants of Prepare these votes.
func isPrepare(t *testing.T, a *acceptor.Acceptor, ballot, from uint64, want ...acceptor.Vote) {
	t.Helper()
	got, e := a.Prepare(ballot, from)
	what := fmt.Sprintf("Prepare(%d, %d)", ballot, from)
	isErr(t, what, e, api.OK)
	isVotes(t, what, got, want)
}

// isRefused wants of Prepare this error, and no votes.
func isRefused(t *testing.T, a *acceptor.Acceptor, ballot, from uint64, want api.Errno) {
	t.Helper()
	got, e := a.Prepare(ballot, from)
	what := fmt.Sprintf("Prepare(%d, %d)", ballot, from)
	isErr(t, what, e, want)
	if got != nil {
		t.Errorf("%s: got %v beside an error", what, got)
	}
}

// isAccept wants of Accept this error.
func isAccept(t *testing.T, a *acceptor.Acceptor, v acceptor.Vote, want api.Errno) {
	t.Helper()
	isErr(t, "Accept of "+told(v), a.Accept(v), want)
}

// isVoted wants this vote for its slot.
func isVoted(t *testing.T, a *acceptor.Acceptor, want acceptor.Vote) {
	t.Helper()
	if got, is := a.Voted(want.Slot); !is || !same(got, want) {
		t.Errorf("Voted(%d): got %s, %v, want %s", want.Slot, told(got), is, told(want))
	}
}

// isNotVoted wants nothing for a slot.
func isNotVoted(t *testing.T, a *acceptor.Acceptor, slot uint64) {
	t.Helper()
	if got, is := a.Voted(slot); is || got.Slot != 0 || got.Ballot != 0 || got.Value != nil {
		t.Errorf("Voted(%d): got %s, %v, want nothing, false", slot, told(got), is)
	}
}

// isAt wants this Promised and this Low.
func isAt(t *testing.T, a *acceptor.Acceptor, promised, low uint64) {
	t.Helper()
	if a.Promised() != promised || a.Low() != low {
		t.Errorf("got Promised %d, Low %d, want %d, %d", a.Promised(), a.Low(), promised, low)
	}
}

// isWhole wants this Promised, this Low, and just these votes: that they are told changes nothing.
func isWhole(t *testing.T, a *acceptor.Acceptor, promised, low uint64, want ...acceptor.Vote) {
	t.Helper()
	isAt(t, a, promised, low)
	isPrepare(t, a, promised, 0, want...)
	for _, v := range want {
		isVoted(t, a, v)
	}
	isAt(t, a, promised, low)
}

// accepted is an Acceptor that took these votes.
func accepted(t *testing.T, l ...acceptor.Vote) *acceptor.Acceptor {
	t.Helper()
	a := acceptor.New()
	for _, v := range l {
		isAccept(t, a, v, api.OK)
	}
	return a
}

// model is an acceptor in the document's words: all votes that were taken, one behind the other, of which the last one for a slot is the vote for it.
type model struct {
	promised, low uint64
	taken         []acceptor.Vote
}

func (m *model) prepare(ballot, from uint64) ([]acceptor.Vote, api.Errno) {
	if ballot < m.promised {
		return nil, api.ErrOld
	}
	m.promised = ballot
	var l []acceptor.Vote
	for _, v := range m.taken {
		if v.Slot < from || slices.ContainsFunc(l, func(x acceptor.Vote) bool { return x.Slot == v.Slot }) {
			continue
		}
		if last, is := m.voted(v.Slot); is {
			l = append(l, last)
		}
	}
	for i := range l { // the lowest one of those that are left comes next
		for j := i + 1; j < len(l); j++ {
			if l[j].Slot < l[i].Slot {
				l[i], l[j] = l[j], l[i]
			}
		}
	}
	return l, api.OK
}

func (m *model) accept(v acceptor.Vote) api.Errno {
	if v.Ballot < m.promised {
		return api.ErrOld
	}
	if v.Slot < m.low {
		return api.ErrRange
	}
	m.promised = v.Ballot
	m.taken = append(m.taken, v)
	return api.OK
}

func (m *model) voted(slot uint64) (acceptor.Vote, bool) {
	for i := len(m.taken) - 1; i >= 0; i-- {
		if v := m.taken[i]; v.Slot == slot && slot >= m.low {
			return v, true
		}
	}
	return acceptor.Vote{}, false
}

func (m *model) forget(slot uint64) { m.low = max(m.low, slot) }

// The chapter's example.
func TestExample(t *testing.T) {
	a := acceptor.New()
	isPrepare(t, a, 5, 0)
	isAccept(t, a, vote(0, 4, ""), api.ErrOld)
	isWhole(t, a, 5, 0)
	isNotVoted(t, a, 0)
}

// P13.1: one that is new promised nothing, voted for nothing, and gave up nothing.
func TestNew(t *testing.T) {
	a := acceptor.New()
	if a == nil {
		t.Fatal("got nil")
	}
	isAt(t, a, 0, 0)
	for _, slot := range []uint64{0, 1, 2, 1 << 32, 1 << 63, top} {
		isNotVoted(t, a, slot)
	}
	isWhole(t, a, 0, 0)
	isPrepare(t, a, 0, top)
	isAt(t, a, 0, 0)
}

// P13.1: two of them are two.
func TestTwoAcceptors(t *testing.T) {
	a, b := acceptor.New(), acceptor.New()
	isAccept(t, a, vote(3, 5, "a"), api.OK)
	isWhole(t, b, 0, 0)
	isAccept(t, b, vote(3, 4, "b"), api.OK)
	b.Forget(2)
	isWhole(t, a, 5, 0, vote(3, 5, "a"))
	isWhole(t, b, 4, 2, vote(3, 4, "b"))
}

// P13.1: one that New didn't make doesn't panic, and is of use.
func TestZeroAcceptor(t *testing.T) {
	var a acceptor.Acceptor
	isWhole(t, &a, 0, 0)
	isNotVoted(t, &a, 0)
	a.Forget(1)
	isAccept(t, &a, vote(2, 3, "a"), api.OK)
	isWhole(t, &a, 3, 1, vote(2, 3, "a"))
}

// P13.1: of nil.
func TestNil(t *testing.T) {
	var a *acceptor.Acceptor
	for _, x := range []uint64{0, 1, 5, top} {
		for _, y := range []uint64{0, 1, 5, top} {
			isRefused(t, a, x, y, api.ErrArg)
			isAccept(t, a, vote(x, y, "a"), api.ErrArg)
		}
		a.Forget(x)
		isNotVoted(t, a, x)
		isAt(t, a, 0, 0)
	}
	isAccept(t, a, acceptor.Vote{}, api.ErrArg)
}

// P13.1: Prepare promises; of a ballot below what was promised nothing is done.
func TestPrepareBallots(t *testing.T) {
	for _, promised := range []uint64{1, 2, 5, 33, 1 << 32, 1 << 63, top - 1, top} {
		a := accepted(t, vote(4, promised-1, "a"))
		isPrepare(t, a, promised, 0, vote(4, promised-1, "a"))
		isAt(t, a, promised, 0)
		isRefused(t, a, promised-1, 0, api.ErrOld)
		isRefused(t, a, 0, 0, api.ErrOld)
		isRefused(t, a, 0, top, api.ErrOld)
		isWhole(t, a, promised, 0, vote(4, promised-1, "a"))
		isPrepare(t, a, promised, 0, vote(4, promised-1, "a"))
		isAt(t, a, promised, 0)
		if promised < top {
			isPrepare(t, a, promised+1, 0, vote(4, promised-1, "a"))
			isAt(t, a, promised+1, 0)
			isRefused(t, a, promised, 0, api.ErrOld)
		}
		isPrepare(t, a, top, 0, vote(4, promised-1, "a"))
		isRefused(t, a, top-1, 0, api.ErrOld)
		isWhole(t, a, top, 0, vote(4, promised-1, "a"))
	}
	a := acceptor.New()
	isPrepare(t, a, 0, 0)
	isPrepare(t, a, 0, 7)
	isAt(t, a, 0, 0)
}

// P13.1: Accept votes at what was promised and above, and promises the vote's ballot; below nothing is done.
func TestAcceptBallots(t *testing.T) {
	for _, promised := range []uint64{1, 2, 5, 33, 1 << 32, 1 << 63, top - 1, top} {
		a := acceptor.New()
		isPrepare(t, a, promised, 0)
		isAccept(t, a, vote(4, promised-1, "a"), api.ErrOld)
		isAccept(t, a, vote(4, 0, "a"), api.ErrOld)
		isNotVoted(t, a, 4)
		isWhole(t, a, promised, 0)
		isAccept(t, a, vote(4, promised, "b"), api.OK)
		isWhole(t, a, promised, 0, vote(4, promised, "b"))
		isAccept(t, a, vote(4, promised-1, "c"), api.ErrOld)
		isAccept(t, a, vote(5, promised-1, "c"), api.ErrOld)
		isWhole(t, a, promised, 0, vote(4, promised, "b"))
		if promised < top {
			isAccept(t, a, vote(6, promised+1, "d"), api.OK)
			isAt(t, a, promised+1, 0)
			isAccept(t, a, vote(7, promised, "e"), api.ErrOld)
			isRefused(t, a, promised, 0, api.ErrOld)
			isWhole(t, a, promised+1, 0, vote(4, promised, "b"), vote(6, promised+1, "d"))
		}
	}
	a := accepted(t, vote(0, 0, ""))
	isWhole(t, a, 0, 0, vote(0, 0, ""))
	isAccept(t, a, vote(top, top, "z"), api.OK)
	isAccept(t, a, vote(1, top-1, "y"), api.ErrOld)
	isWhole(t, a, top, 0, vote(0, 0, ""), vote(top, top, "z"))
}

// P13.1: Accept of slots below Low, at it, and above.
func TestAcceptSlots(t *testing.T) {
	for _, low := range []uint64{1, 2, 7, 1 << 32, 1 << 63, top - 1, top} {
		a := acceptor.New()
		isPrepare(t, a, 5, 0)
		a.Forget(low)
		isAccept(t, a, vote(low-1, 6, "a"), api.ErrRange)
		isAccept(t, a, vote(0, 6, "a"), api.ErrRange)
		isNotVoted(t, a, low-1)
		isWhole(t, a, 5, low) // what was refused for its slot promised nothing, too
		isAccept(t, a, vote(low, 6, "b"), api.OK)
		want := votes(vote(low, 6, "b"))
		isWhole(t, a, 6, low, want...)
		if low < top {
			isAccept(t, a, vote(low+1, 6, "c"), api.OK)
			want = append(want, vote(low+1, 6, "c"))
		}
		isAccept(t, a, vote(low-1, 6, "d"), api.ErrRange)
		isAccept(t, a, vote(low-1, top, "d"), api.ErrRange)
		isWhole(t, a, 6, low, want...)
	}
	a := accepted(t, vote(0, 1, "first"), vote(top, 1, "last"))
	isWhole(t, a, 1, 0, vote(0, 1, "first"), vote(top, 1, "last"))
}

// P13.1: a vote that is too low in its ballot and in its slot tells the ballot's error.
func TestAcceptTooLowInBoth(t *testing.T) {
	a := accepted(t, vote(9, 4, "a"))
	isPrepare(t, a, 5, top)
	a.Forget(3)
	for _, slot := range []uint64{0, 1, 2} {
		for _, ballot := range []uint64{0, 3, 4} {
			isAccept(t, a, vote(slot, ballot, "b"), api.ErrOld)
			isNotVoted(t, a, slot)
		}
		for _, ballot := range []uint64{5, 6, top} {
			isAccept(t, a, vote(slot, ballot, "b"), api.ErrRange)
			isNotVoted(t, a, slot)
		}
	}
	for _, ballot := range []uint64{0, 3, 4} {
		isAccept(t, a, vote(3, ballot, "b"), api.ErrOld)
		isNotVoted(t, a, 3)
	}
	isWhole(t, a, 5, 3, vote(9, 4, "a"))
}

// P13.1: a slot that is voted for again has the last vote alone, under the same ballot, too.
func TestAcceptAgain(t *testing.T) {
	a := accepted(t, vote(4, 2, "first"), vote(4, 2, "second"))
	isWhole(t, a, 2, 0, vote(4, 2, "second"))
	isAccept(t, a, vote(4, 2, ""), api.OK)
	isWhole(t, a, 2, 0, vote(4, 2, ""))
	isAccept(t, a, vote(4, 3, "longer than all ahead"), api.OK)
	isWhole(t, a, 3, 0, vote(4, 3, "longer than all ahead"))
	isAccept(t, a, vote(4, 2, "late"), api.ErrOld)
	isWhole(t, a, 3, 0, vote(4, 3, "longer than all ahead"))
	isAccept(t, a, vote(5, 3, "other"), api.OK)
	isAccept(t, a, vote(4, 9, "x"), api.OK)
	isWhole(t, a, 9, 0, vote(4, 9, "x"), vote(5, 3, "other"))
	a.Forget(5)
	isAccept(t, a, vote(4, 9, "y"), api.ErrRange)
	isWhole(t, a, 9, 5, vote(5, 3, "other"))
}

// P13.1: a Value of any length is voted for.
func TestAcceptValues(t *testing.T) {
	for _, n := range []int{0, 1, 2, 255, 256, mostValue, mostValue + 1, 100000} {
		b := bytes.Repeat([]byte{0, 1, 255}, n/3+1)[:n]
		a := acceptor.New()
		isErr(t, "Accept", a.Accept(acceptor.Vote{Slot: 1, Ballot: 2, Value: b}), api.OK)
		v, is := a.Voted(1)
		l, e := a.Prepare(2, 0)
		if !is || !bytes.Equal(v.Value, b) || e != api.OK || len(l) != 1 || !bytes.Equal(l[0].Value, b) {
			t.Errorf("%d bytes: got %d, %v, %d votes, error %d", n, len(v.Value), is, len(l), e)
		}
	}
	a := accepted(t, acceptor.Vote{Slot: 1, Ballot: 2})
	isVoted(t, a, vote(1, 2, ""))
}

// orders are some orders of the places of a list of so many.
func orders(n int) [][]int {
	rising := make([]int, n)
	for i := range rising {
		rising[i] = i
	}
	falling := slices.Clone(rising)
	slices.Reverse(falling)
	all := [][]int{rising, falling}
	c := rand.New(rand.NewSource(int64(n)))
	for range 20 {
		all = append(all, c.Perm(n))
	}
	return all
}

// P13.1: in whatever order slots were voted for, they are told rising, from from on.
func TestPrepareSlots(t *testing.T) {
	slots := []uint64{0, 1, 5, 9, 10, 100, 255, 256, 1 << 31, 1<<32 - 1, 1 << 32, 1<<63 - 1, 1 << 63, 1<<63 + 1, top - 2, top}
	var all []acceptor.Vote
	for _, slot := range slots {
		all = append(all, vote(slot, 3, strconv.FormatUint(slot, 10)))
	}
	for _, order := range orders(len(all)) {
		a := acceptor.New()
		for _, i := range order {
			isAccept(t, a, all[i], api.OK)
		}
		isPrepare(t, a, 3, 0, all...)
		for i, slot := range slots {
			isPrepare(t, a, 3, slot, all[i:]...)
			if slot > 0 && slots[i-1] < slot-1 {
				isPrepare(t, a, 3, slot-1, all[i:]...)
			}
			if slot < top {
				isPrepare(t, a, 3, slot+1, all[i+1:]...)
			}
		}
		isWhole(t, a, 3, 0, all...)
	}
	a := accepted(t, all[:len(all)-1]...)
	isPrepare(t, a, 3, top-2, all[len(all)-2])
	isPrepare(t, a, 3, top-1)
	isPrepare(t, a, 3, top)
	isWhole(t, a, 3, 0, all[:len(all)-1]...)
}

// P13.1: from ahead of Low, at it, and behind.
func TestPrepareFromAboutLow(t *testing.T) {
	a := accepted(t, vote(1, 1, "a"), vote(4, 1, "b"), vote(6, 1, "c"))
	a.Forget(4)
	for _, from := range []uint64{0, 1, 2, 3, 4} {
		isPrepare(t, a, 1, from, vote(4, 1, "b"), vote(6, 1, "c"))
	}
	isPrepare(t, a, 1, 5, vote(6, 1, "c"))
	isPrepare(t, a, 1, 6, vote(6, 1, "c"))
	isPrepare(t, a, 1, 7)
	isAt(t, a, 1, 4) // from gives up nothing
	isPrepare(t, a, 2, 0, vote(4, 1, "b"), vote(6, 1, "c"))
}

// P13.1: Forget below Low and at it changes nothing; above it is Low, and what is below is gone.
func TestForget(t *testing.T) {
	all := votes(vote(2, 1, "a"), vote(3, 2, "b"), vote(5, 3, "c"), vote(9, 4, "d"))
	a := accepted(t, all...)
	a.Forget(0)
	isWhole(t, a, 4, 0, all...)
	a.Forget(2) // a slot that was voted for stays
	isWhole(t, a, 4, 2, all...)
	for _, slot := range []uint64{0, 1, 2} {
		a.Forget(slot)
		isWhole(t, a, 4, 2, all...)
	}
	a.Forget(3)
	isWhole(t, a, 4, 3, all[1:]...)
	isNotVoted(t, a, 2)
	a.Forget(6) // a slot that nobody voted for
	isWhole(t, a, 4, 6, all[3:]...)
	isNotVoted(t, a, 3)
	isNotVoted(t, a, 5)
	isNotVoted(t, a, 6)
	a.Forget(5)
	isWhole(t, a, 4, 6, all[3:]...)
	a.Forget(10) // above all
	isWhole(t, a, 4, 10)
	for slot := range uint64(12) {
		isNotVoted(t, a, slot)
	}
	isAccept(t, a, vote(9, 4, "e"), api.ErrRange)
	isAccept(t, a, vote(10, 4, "e"), api.OK)
	isWhole(t, a, 4, 10, vote(10, 4, "e"))
}

// P13.1: Forget of the last slot leaves it alone.
func TestForgetToTheEnd(t *testing.T) {
	a := accepted(t, vote(0, 1, "a"), vote(top-1, 1, "b"), vote(top, 1, "c"))
	a.Forget(top - 1)
	isWhole(t, a, 1, top-1, vote(top-1, 1, "b"), vote(top, 1, "c"))
	a.Forget(top)
	isWhole(t, a, 1, top, vote(top, 1, "c"))
	a.Forget(top)
	a.Forget(0)
	isWhole(t, a, 1, top, vote(top, 1, "c"))
	isAccept(t, a, vote(top-1, 1, "d"), api.ErrRange)
	isAccept(t, a, vote(top, 1, "d"), api.OK)
	isWhole(t, a, 1, top, vote(top, 1, "d"))
	b := acceptor.New()
	b.Forget(top)
	isWhole(t, b, 0, top)
}

// P13.1: of many votes all below are gone, and all others stay.
func TestForgetMany(t *testing.T) {
	a := acceptor.New()
	var all []acceptor.Vote
	for slot := range uint64(1000) {
		all = append(all, vote(slot, 1, strconv.FormatUint(slot, 10)))
	}
	for _, i := range rand.New(rand.NewSource(13)).Perm(len(all)) {
		isAccept(t, a, all[i], api.OK)
	}
	for _, low := range []uint64{0, 1, 2, 499, 500, 998, 999, 1000} {
		a.Forget(low)
		isWhole(t, a, 1, low, all[low:]...)
		for slot := range low {
			isNotVoted(t, a, slot)
		}
	}
}

// P13.1: Voted of slots below Low, at it, of one that was given up, and of one that nobody voted for.
func TestVoted(t *testing.T) {
	a := accepted(t, vote(0, 1, "a"), vote(2, 1, "b"), vote(3, 2, ""), vote(5, 3, "d"))
	isVoted(t, a, vote(0, 1, "a"))
	isNotVoted(t, a, 1)
	isVoted(t, a, vote(2, 1, "b"))
	isVoted(t, a, vote(3, 2, "")) // it has no bytes, and is a vote
	isNotVoted(t, a, 4)
	isVoted(t, a, vote(5, 3, "d"))
	isNotVoted(t, a, 6)
	isNotVoted(t, a, top)
	a.Forget(3)
	isNotVoted(t, a, 0)
	isNotVoted(t, a, 1)
	isNotVoted(t, a, 2)
	isVoted(t, a, vote(3, 2, ""))
	a.Forget(4)
	isNotVoted(t, a, 3)
	isNotVoted(t, a, 4)
	isVoted(t, a, vote(5, 3, "d"))
	isAt(t, a, 3, 4)
}

// P13.1: calls in turn, of one slot.
func TestInTurn(t *testing.T) {
	a := acceptor.New()
	isPrepare(t, a, 1, 0)
	isAccept(t, a, vote(0, 1, "a"), api.OK)
	isVoted(t, a, vote(0, 1, "a"))
	isPrepare(t, a, 2, 0, vote(0, 1, "a")) // a vote keeps its ballot
	isVoted(t, a, vote(0, 1, "a"))
	isAccept(t, a, vote(0, 1, "b"), api.ErrOld)
	isAccept(t, a, vote(0, 2, "a"), api.OK)
	isPrepare(t, a, 3, 1)
	isPrepare(t, a, 4, 0, vote(0, 2, "a"))
	a.Forget(1)
	isPrepare(t, a, 5, 0)
	isAccept(t, a, vote(0, 5, "a"), api.ErrRange)
	isAccept(t, a, vote(1, 5, "c"), api.OK)
	isWhole(t, a, 5, 1, vote(1, 5, "c"))
}

// P13.1, P13.3: calls that look like chance tell what the document's words tell; what was promised never sinks, and a vote is of a ballot that was promised then.
func TestChance(t *testing.T) {
	c := rand.New(rand.NewSource(31))
	for run := range 400 {
		a, m := acceptor.New(), &model{}
		base := []uint64{0, 1 << 32, 1 << 63, top - 40}[run%4]
		near := func(x uint64) uint64 {
			if c.Intn(3) == 0 {
				return x + uint64(c.Intn(3)) - 1
			}
			return base + uint64(c.Intn(40))
		}
		for range 200 {
			was := a.Promised()
			switch c.Intn(10) {
			case 0, 1:
				ballot, from := near(m.promised), near(m.low)
				want, err := m.prepare(ballot, from)
				if err == api.OK {
					isPrepare(t, a, ballot, from, want...)
				} else {
					isRefused(t, a, ballot, from, err)
				}
			case 2:
				low := near(m.low)
				if c.Intn(3) > 0 {
					low = m.low + uint64(c.Intn(2)) // else there would soon be nothing
				}
				a.Forget(low)
				m.forget(low)
			default:
				ballot := near(m.promised)
				if c.Intn(2) == 0 {
					ballot = m.promised
				}
				v := vote(near(m.low), ballot, strconv.Itoa(c.Intn(1000)))
				err := m.accept(v)
				isAccept(t, a, v, err)
				if err == api.OK && a.Promised() != v.Ballot {
					t.Errorf("a vote is of ballot %d, promised was %d", v.Ballot, a.Promised())
				}
			}
			if a.Promised() < was {
				t.Errorf("what was promised sank from %d to %d", was, a.Promised())
			}
			slot := near(m.low)
			if v, is := m.voted(slot); is {
				isVoted(t, a, v)
			} else {
				isNotVoted(t, a, slot)
			}
		}
		want, _ := m.prepare(m.promised, 0)
		isWhole(t, a, m.promised, m.low, want...)
		if t.Failed() {
			t.Fatalf("in run %d", run)
		}
	}
}

// P13.1, P13.3: the same calls have the same answers, though slots stand in a map.
func TestSameAgain(t *testing.T) {
	first := ""
	for range 20 {
		a := acceptor.New()
		for slot := range uint64(50) {
			a.Accept(vote(slot*7%50, slot, strconv.FormatUint(slot, 10)))
		}
		a.Forget(10)
		l, e := a.Prepare(100, 20)
		got := fmt.Sprint(l, e, a.Promised(), a.Low())
		if first == "" {
			first = got
		}
		if got != first {
			t.Fatalf("got %s, it was %s", got, first)
		}
	}
}

// P13.1: a Value that was handed in is neither kept nor changed.
func TestAcceptKeepsNoValue(t *testing.T) {
	in := []byte("abcdef")
	a := acceptor.New()
	isErr(t, "Accept", a.Accept(acceptor.Vote{Slot: 1, Ballot: 2, Value: in[:3]}), api.OK)
	isErr(t, "Accept", a.Accept(acceptor.Vote{Slot: 2, Ballot: 2, Value: in[:3]}), api.OK)
	isErr(t, "Accept", a.Accept(acceptor.Vote{Slot: 3, Ballot: 2, Value: in[1:4]}), api.OK)
	if string(in) != "abcdef" {
		t.Errorf("what was handed in is %q", in)
	}
	l, _ := a.Prepare(2, 0)
	spoilBytes(in)
	want := votes(vote(1, 2, "abc"), vote(2, 2, "abc"), vote(3, 2, "bcd"))
	isVotes(t, "what was told ahead", l, want)
	isWhole(t, a, 2, 0, want...)
	// An old Value isn't what a new one is laid into.
	v, _ := a.Voted(1)
	isAccept(t, a, vote(1, 2, "xyz"), api.OK)
	if string(v.Value) != "abc" {
		t.Errorf("what was told ahead is %q", v.Value)
	}
}

// P13.1: what Prepare and Voted tell is in new memory: whatever is done with it, neither the Acceptor nor another answer changes.
func TestAnswersAreInNewMemory(t *testing.T) {
	for n := range 20 { // of many lengths: room that is left over would show
		text := string(bytes.Repeat([]byte("v"), n))
		want := votes(vote(1, 1, text), vote(2, 1, text+"b"), vote(4, 1, text+"c"))
		a := accepted(t, want...)
		isRoomLeft(t, want)
		kept, _ := a.Prepare(1, 0)
		one, _ := a.Voted(2)
		spoiled, _ := a.Prepare(1, 0)
		spoil(spoiled)
		other, _ := a.Voted(2)
		spoilBytes(other.Value)
		other.Slot = 77
		isVotes(t, "another answer of Prepare", kept, want)
		isVotes(t, "another answer of Voted", votes(one), want[1:2])
		isWhole(t, a, 1, 0, want...)
		spoilBytes(kept[0].Value)
		_ = append(kept[0].Value, "grown"...)
		isVotes(t, "other votes of the answer", kept[1:], want[1:])
		a.Accept(vote(4, 1, "new"))
		a.Forget(2)
		isVotes(t, "an answer behind other calls", kept[1:], want[1:])
		isVotes(t, "an answer behind other calls", votes(one), want[1:2])
	}
}

// number are a number's bytes in the document's words.
func number(x uint64) []byte {
	var b []byte
	for ; x > 0; x /= 256 {
		b = append([]byte{byte(x % 256)}, b...)
	}
	return append([]byte{byte(len(b))}, b...)
}

// putInWords is Put in the document's words.
func putInWords(l []acceptor.Vote) []byte {
	b := number(uint64(len(l)))
	for _, v := range l {
		b = append(b, number(v.Slot)...)
		b = append(b, number(v.Ballot)...)
		b = append(b, number(uint64(len(v.Value)))...)
		b = append(b, v.Value...)
	}
	return b
}

// taker takes from the front of bytes, and has the first error.
type taker struct {
	left []byte
	err  api.Errno
}

func (k *taker) number() *big.Int {
	x := new(big.Int)
	if k.err != api.OK {
		return x
	}
	switch {
	case len(k.left) == 0:
		k.err = api.ErrShort
	case k.left[0] > 8:
		k.err = api.ErrForm
	case len(k.left) < 1+int(k.left[0]):
		k.err = api.ErrShort
	case k.left[0] > 0 && k.left[1] == 0:
		k.err = api.ErrForm
	default:
		n := 1 + int(k.left[0])
		x.SetBytes(k.left[1:n])
		k.left = k.left[n:]
	}
	return x
}

func (k *taker) value() []byte {
	n := k.number()
	if k.err != api.OK {
		return nil
	}
	if n.Cmp(big.NewInt(32768)) > 0 {
		k.err = api.ErrBig
		return nil
	}
	if n.Cmp(big.NewInt(int64(len(k.left)))) > 0 {
		k.err = api.ErrShort
		return nil
	}
	b := k.left[:n.Int64()]
	k.left = k.left[n.Int64():]
	return b
}

// getInWords is Get in the document's words.
func getInWords(b []byte) ([]acceptor.Vote, api.Errno) {
	k := &taker{left: b}
	var l []acceptor.Vote
	last := big.NewInt(-1)
	many := k.number()
	for i := big.NewInt(0); k.err == api.OK && i.Cmp(many) < 0; i.Add(i, big.NewInt(1)) {
		slot := k.number()
		if k.err == api.OK && slot.Cmp(last) <= 0 {
			k.err = api.ErrForm
		}
		last = slot
		ballot, value := k.number(), k.value()
		l = append(l, acceptor.Vote{Slot: slot.Uint64(), Ballot: ballot.Uint64(), Value: value})
	}
	if k.err == api.OK && len(k.left) > 0 {
		k.err = api.ErrLeft
	}
	if k.err != api.OK {
		return nil, k.err
	}
	return l, api.OK
}

// isBytes wants these bytes.
func isBytes(t *testing.T, what string, got, want []byte) {
	t.Helper()
	if !bytes.Equal(got, want) {
		t.Errorf("%s: got % d, want % d", what, got, want)
	}
}

// short is at most the front of bytes, for a report.
func short(b []byte) string {
	if len(b) > 60 {
		return fmt.Sprintf("% d .. (%d bytes)", b[:60], len(b))
	}
	return fmt.Sprintf("% d", b)
}

// isGet wants these votes and this error of bytes, no votes beside an error, and what the document's words tell.
func isGet(t *testing.T, b []byte, want []acceptor.Vote, err api.Errno) {
	t.Helper()
	was := bytes.Clone(b)
	got, e := acceptor.Get(b)
	isErr(t, "Get of "+short(b), e, err)
	if e != api.OK && got != nil {
		t.Errorf("Get of %s: got %v beside an error", short(b), got)
	}
	if !slices.EqualFunc(got, want, same) {
		t.Errorf("Get of %s: got %d votes %.200v, want %d", short(b), len(got), got, len(want))
	}
	if !bytes.Equal(b, was) {
		t.Errorf("Get of %s changed it", short(was))
	}
	if worded, f := getInWords(b); f != err || !slices.EqualFunc(worded, want, same) {
		t.Errorf("Get of %s: the words tell error %d, want %d", short(b), f, err)
	}
}

// isGetAsWorded wants of bytes what the document's words tell.
func isGetAsWorded(t *testing.T, b []byte) {
	t.Helper()
	want, err := getInWords(b)
	isGet(t, b, want, err)
}

// rows are lists of votes whose slots rise.
func rows() [][]acceptor.Vote {
	many := make([]acceptor.Vote, 300)
	for i := range many {
		many[i] = vote(uint64(i*i), uint64(1000-i), strconv.Itoa(i))
	}
	return [][]acceptor.Vote{
		nil,
		votes(),
		votes(vote(0, 0, "")),
		votes(vote(1, 2, "ab")),
		votes(vote(top, top, "z")),
		votes(vote(0, top, ""), vote(1, 0, "\x00"), vote(2, 5, "\x00\xff")),
		votes(vote(0, 9, "same"), vote(300, 9, "same"), vote(top-1, 3, ""), vote(top, 1<<56, "end")),
		votes(vote(3, 1, string(make([]byte, mostValue))), vote(4, 1, "b")),
		many,
	}
}

// P13.2: how many votes, and of each Slot, Ballot, Value; also of slots that don't rise.
func TestPut(t *testing.T) {
	isBytes(t, "nil", acceptor.Put(nil), []byte{0})
	isBytes(t, "none", acceptor.Put(votes()), []byte{0})
	isBytes(t, "noughts", acceptor.Put(votes(acceptor.Vote{})), []byte{1, 1, 0, 0, 0})
	isBytes(t, "one", acceptor.Put(votes(vote(1, 2, "ab"))), []byte{1, 1, 1, 1, 1, 2, 1, 2, 97, 98})
	isBytes(t, "two", acceptor.Put(votes(vote(300, 0, ""), vote(0, 256, "\x00"))), []byte{1, 2, 2, 1, 44, 0, 0, 0, 2, 1, 0, 1, 1, 0})
	isBytes(t, "the greatest", acceptor.Put(votes(vote(top, top, "z"))), []byte{1, 1, 8, 255, 255, 255, 255, 255, 255, 255, 255, 8, 255, 255, 255, 255, 255, 255, 255, 255, 1, 1, 122})
	isBytes(t, "alike", acceptor.Put(votes(vote(1, 2, ""), vote(1, 3, ""))), []byte{1, 2, 1, 1, 1, 2, 0, 1, 1, 1, 3, 0})
	for _, l := range rows() {
		isBytes(t, "a row", acceptor.Put(l), putInWords(l))
		falling := slices.Clone(l)
		slices.Reverse(falling)
		isBytes(t, "a falling row", acceptor.Put(falling), putInWords(falling))
	}
	for _, n := range []int{mostValue, mostValue + 1, 70000} { // what isn't got is put, too
		l := votes(vote(1, 1, string(make([]byte, n))))
		isBytes(t, "a long Value", acceptor.Put(l), putInWords(l))
	}
}

// P13.2: what Put is handed is neither kept nor changed, and what it tells is in new memory.
func TestPutIsInNewMemory(t *testing.T) {
	l := votes(vote(1, 2, "ab"), vote(2, 2, "cd"), vote(5, 2, "ef"))
	was := deep(l)
	given := l[:2]
	want := []byte{1, 2, 1, 1, 1, 2, 1, 2, 97, 98, 1, 2, 1, 2, 1, 2, 99, 100}
	kept, other := acceptor.Put(given), acceptor.Put(given)
	spoilBytes(other)
	isBytes(t, "another answer", kept, want)
	isVotes(t, "what was handed in", l, was)
	isRoomLeft(t, l)
	isBytes(t, "an answer later", acceptor.Put(given), want)
	spoil(l)
	isBytes(t, "an answer later", kept, want)
}

// P13.2, P13.3: votes that rise are got as they were put.
func TestGetOfPut(t *testing.T) {
	for _, l := range rows() {
		isGet(t, acceptor.Put(l), deep(l), api.OK)
	}
	isGet(t, []byte{0}, nil, api.OK)
	isGet(t, []byte{1, 1, 0, 0, 0}, votes(vote(0, 0, "")), api.OK)
	isGet(t, []byte{1, 2, 1, 1, 1, 2, 0, 2, 1, 44, 0, 1, 1, 97}, votes(vote(1, 2, ""), vote(300, 0, "a")), api.OK)
	c := rand.New(rand.NewSource(133))
	for range 3000 {
		l := chanceVotes(c)
		isGet(t, acceptor.Put(l), deep(l), api.OK)
	}
}

// chanceVotes are votes that look like chance, and rise.
func chanceVotes(c *rand.Rand) []acceptor.Vote {
	var l []acceptor.Vote
	slot := c.Uint64() >> c.Intn(64)
	for range c.Intn(6) {
		value := make([]byte, c.Intn(5))
		c.Read(value)
		l = append(l, vote(slot, c.Uint64()>>c.Intn(64), string(value)))
		next := slot + 1 + c.Uint64()>>(1+c.Intn(63))
		if next <= slot {
			break
		}
		slot = next
	}
	return l
}

// P13.3: what an Acceptor tells is got as it told it.
func TestPutOfPrepare(t *testing.T) {
	a := accepted(t, vote(7, 1, "c"), vote(2, 2, ""), vote(top, 2, "d"), vote(4, 9, "b"))
	l, _ := a.Prepare(9, 0)
	isGet(t, acceptor.Put(l), votes(vote(2, 2, ""), vote(4, 9, "b"), vote(7, 1, "c"), vote(top, 2, "d")), api.OK)
}

// P13.2: slots that are the same or fall are no such thing as soon as the slot is read, whatever comes behind.
func TestGetOfSlotsThatDontRise(t *testing.T) {
	for _, c := range []struct{ first, second uint64 }{
		{0, 0}, {1, 1}, {1, 0}, {300, 299}, {300, 300}, {256, 255}, {256, 1}, {top, top}, {top, top - 1}, {top, 0}, {1 << 63, 1<<63 - 1}, {1<<63 + 1, 1},
	} {
		b := append([]byte{1, 2}, number(c.first)...)
		b = append(b, 1, 5, 1, 1, 97)
		b = append(b, number(c.second)...)
		for _, behind := range [][]byte{
			{1, 6, 0},             // a whole vote
			{1, 5, 1, 1, 97},      // the same one
			{1, 6, 0, 9},          // and a byte is left
			nil,                   // nothing
			{9},                   // a Ballot of nine bytes
			{1, 0, 0},             // one with a nought in front
			{1},                   // one that is cut off
			{1, 6},                // no Value
			{1, 6, 3, 1, 0, 0},    // a Value that is too long
			{1, 6, 2, 128, 1, 97}, // one that is too long by one
			{1, 6, 1, 5, 97},      // one that is cut off
		} {
			isGet(t, append(bytes.Clone(b), behind...), nil, api.ErrForm)
		}
	}
	// The third one doesn't rise, be it above the first one or not.
	for _, third := range []byte{1, 3, 4, 5} {
		isGet(t, []byte{1, 3, 1, 3, 0, 0, 1, 5, 0, 0, 1, third, 9}, nil, api.ErrForm)
	}
	isGet(t, []byte{1, 3, 1, 3, 0, 0, 1, 5, 0, 0, 1, 6, 0, 0}, votes(vote(3, 0, ""), vote(5, 0, ""), vote(6, 0, "")), api.OK)
}

// P13.2: where a vote's slot is no number, or an error stands ahead of a slot that doesn't rise, that is told.
func TestGetTellsTheFirstError(t *testing.T) {
	isGet(t, []byte{1, 2, 1, 5, 0, 0}, nil, api.ErrShort)
	isGet(t, []byte{1, 2, 1, 5, 0, 0, 1}, nil, api.ErrShort)
	isGet(t, []byte{1, 2, 1, 5, 0, 0, 2, 1}, nil, api.ErrShort)
	isGet(t, []byte{1, 2, 1, 5, 0, 0, 9}, nil, api.ErrForm)
	isGet(t, []byte{1, 2, 1, 5, 9, 0, 1, 4, 0, 0}, nil, api.ErrForm)
	isGet(t, []byte{1, 2, 1, 5, 0, 3, 1, 0, 0, 1, 4, 0, 0}, nil, api.ErrBig)
	isGet(t, []byte{1, 2, 1, 5, 0, 1, 4}, nil, api.ErrShort)
	isGet(t, []byte{1, 2, 0, 0, 0}, nil, api.ErrShort) // one that isn't there is no slot 0
	isGet(t, []byte{1, 1, 0, 0, 0, 0}, nil, api.ErrLeft)
	isGet(t, []byte{1, 1, 0, 0, 0, 0, 0, 0}, nil, api.ErrLeft)
}

// P13.2: bytes that are cut off anywhere end too early.
func TestGetOfBytesCutOff(t *testing.T) {
	for _, l := range rows() {
		b := putInWords(l)
		step := 1 + len(b)/3000
		for n := 0; n < len(b); n += step {
			isGet(t, b[:n:n], nil, api.ErrShort)
			if n%97 == 0 {
				isGet(t, b[:n], nil, api.ErrShort) // what stands behind isn't read
			}
		}
	}
	isGet(t, nil, nil, api.ErrShort)
	isGet(t, []byte{}, nil, api.ErrShort)
}

// P13.2: bytes that are left.
func TestGetOfBytesThatAreLeft(t *testing.T) {
	for _, l := range rows() {
		b := putInWords(l)
		for _, left := range [][]byte{{0}, {1}, {9}, {255}, {0, 0, 0}, {1, 2}, b} {
			isGet(t, append(bytes.Clone(b), left...), nil, api.ErrLeft)
		}
	}
}

// P13.2: a Value of 32768 bytes is got; one of more is too big, be its bytes there or not.
func TestGetOfLongValues(t *testing.T) {
	long := bytes.Repeat([]byte{1, 2, 3, 4}, mostValue/4)
	fits := append([]byte{1, 1, 1, 7, 1, 8, 2, 128, 0}, long...)
	isGet(t, fits, votes(vote(7, 8, string(long))), api.OK)
	isGet(t, fits[:len(fits)-1], nil, api.ErrShort)
	isGet(t, append(bytes.Clone(fits), 0), nil, api.ErrLeft)
	big := append([]byte{1, 1, 1, 7, 1, 8, 2, 128, 1}, append(bytes.Clone(long), 5)...)
	isGet(t, big, nil, api.ErrBig)
	isGet(t, big[:len(big)-1], nil, api.ErrBig)
	isGet(t, big[:9], nil, api.ErrBig)
	isGet(t, append(bytes.Clone(big), 0), nil, api.ErrBig)
	isGet(t, []byte{1, 1, 1, 7, 1, 8, 2, 255, 255}, nil, api.ErrBig)
	isGet(t, []byte{1, 1, 1, 7, 1, 8, 3, 1, 0, 0}, nil, api.ErrBig)
	isGet(t, []byte{1, 1, 1, 7, 1, 8, 8, 128, 0, 0, 0, 0, 0, 0, 0}, nil, api.ErrBig)
	isGet(t, []byte{1, 1, 1, 7, 1, 8, 8, 255, 255, 255, 255, 255, 255, 255, 255}, nil, api.ErrBig)
	second := append([]byte{1, 2, 0, 0, 0, 1, 1, 0, 2, 128, 0}, long...)
	isGet(t, second, votes(vote(0, 0, ""), vote(1, 0, string(long))), api.OK)
	second[10] = 1
	isGet(t, second, nil, api.ErrBig)
	isGet(t, acceptor.Put(votes(vote(1, 1, string(long)+"a"))), nil, api.ErrBig)
}

// P13.2: a number with more bytes than it needs, or than there are numbers, is none, wherever it stands.
func TestGetOfNumbersThatAreNone(t *testing.T) {
	parts := [][]byte{{1, 2}, {1, 3}, {1, 4}, {1, 1}, {97}, {1, 5}, {1, 6}, {1, 1}, {98}}
	isGet(t, slices.Concat(parts...), votes(vote(3, 4, "a"), vote(5, 6, "b")), api.OK)
	for i, part := range parts {
		if len(part) == 1 {
			continue // no number
		}
		for _, wrong := range [][]byte{
			{2, 0, part[1]}, {3, 0, 0, part[1]}, {8, 0, 0, 0, 0, 0, 0, 0, part[1]}, {1, 0}, {2, 0, 0},
			{9, 0, 0, 0, 0, 0, 0, 0, 0, part[1]}, {9, 1, 2, 3, 4, 5, 6, 7, 8, 9}, {10}, {255},
		} {
			spoiled := slices.Clone(parts)
			spoiled[i] = wrong
			isGet(t, slices.Concat(spoiled...), nil, api.ErrForm)
		}
	}
}

// P13.2: a count that is greater than the votes that are there ends where they end.
func TestGetOfGreatCounts(t *testing.T) {
	for _, many := range []uint64{3, 4, 255, 256, 1 << 31, 1 << 32, 1<<63 - 1, 1 << 63, top - 1, top} {
		b := number(many)
		isGet(t, b, nil, api.ErrShort)
		b = append(b, 1, 3, 0, 1, 1, 97, 1, 5, 0, 0)
		isGet(t, b, nil, api.ErrShort)
		isGet(t, append(bytes.Clone(b), 1, 4), nil, api.ErrForm)
		isGet(t, append(bytes.Clone(b), 1, 5), nil, api.ErrForm)
		isGet(t, append(bytes.Clone(b), 9), nil, api.ErrForm)
		isGet(t, append(bytes.Clone(b), 1, 6, 0), nil, api.ErrShort)
	}
	isGet(t, []byte{1, 2, 1, 3, 0, 1, 1, 97, 1, 5, 0, 0}, votes(vote(3, 0, "a"), vote(5, 0, "")), api.OK)
	isGet(t, []byte{1, 1, 1, 3, 0, 1, 1, 97, 1, 5, 0, 0}, nil, api.ErrLeft)
	isGet(t, []byte{0, 1, 3, 0, 1, 1, 97, 1, 5, 0, 0}, nil, api.ErrLeft)
}

// P13.2: of all short rows of some bytes it tells what the document's words tell; and what is got is put as the bytes that were read.
func TestGetOfAllShortBytes(t *testing.T) {
	some := []byte{0, 1, 2, 9}
	var try func(b []byte, left int)
	got := 0
	try = func(b []byte, left int) {
		isGetAsWorded(t, b)
		if l, e := acceptor.Get(b); e == api.OK {
			got++
			isBytes(t, "Put of Get", acceptor.Put(l), b)
		}
		if left == 0 || t.Failed() {
			return
		}
		for _, x := range some {
			try(append(b[:len(b):len(b)], x), left-1)
		}
	}
	try(nil, 8)
	if got < 10 {
		t.Errorf("only %d were votes", got)
	}
}

// P13.2: and so it does of bytes that were put, of which some were changed.
func TestGetOfChangedBytes(t *testing.T) {
	c := rand.New(rand.NewSource(132))
	seen := map[api.Errno]int{}
	for range 30000 {
		l := chanceVotes(c)
		if c.Intn(3) == 0 && len(l) > 1 {
			i, j := c.Intn(len(l)), c.Intn(len(l))
			l[i], l[j] = l[j], l[i]
		}
		b := acceptor.Put(l)
		for range c.Intn(3) {
			at := c.Intn(len(b))
			switch c.Intn(4) {
			case 0:
				b[at] = byte(c.Intn(256))
			case 1:
				b[at] += byte(c.Intn(3)) - 1
			case 2:
				b = slices.Insert(b, at, byte(c.Intn(10)))
			case 3:
				b = slices.Delete(b, at, at+1)
			}
			if len(b) == 0 {
				break
			}
		}
		isGetAsWorded(t, b)
		_, e := acceptor.Get(b)
		seen[e]++
		if t.Failed() {
			t.FailNow()
		}
	}
	for _, e := range []api.Errno{api.OK, api.ErrShort, api.ErrForm, api.ErrLeft, api.ErrBig} {
		if seen[e] < 20 {
			t.Errorf("error %d came just %d times", e, seen[e])
		}
	}
}

// P13.2: what Get tells is in new memory: neither the bytes nor another vote nor another answer shares it.
func TestGetIsInNewMemory(t *testing.T) {
	want := votes(vote(1, 2, "ab"), vote(2, 2, "cdefghijk"), vote(5, 2, "l"))
	b := putInWords(want)
	was := bytes.Clone(b)
	kept, _ := acceptor.Get(b)
	other, _ := acceptor.Get(b)
	_ = append(other[0].Value, "grown over all that is behind"...)
	isVotes(t, "the other votes of the answer", other[1:], want[1:])
	spoil(other)
	isBytes(t, "what was handed in", b, was)
	isVotes(t, "another answer", kept, want)
	spoilBytes(b)
	isVotes(t, "an answer later", kept, want)
	spoilBytes(kept[1].Value)
	isVotes(t, "another vote of the answer", votes(kept[0], kept[2]), votes(want[0], want[2]))
}
