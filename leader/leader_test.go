package leader_test

import (
	"bytes"
	"fmt"
	"math"
	"math/rand"
	"slices"
	"strconv"
	"testing"

	"notcher/acceptor"
	"notcher/api"
	"notcher/leader"
)

const (
	end       = uint64(math.MaxUint64) // the slot that is never proposed for
	mostSlots = 4096                   // how many slots may be proposed for at once
)

// behind is what stands in the room behind a Value that is handed in.
const behind = "behind"

// value are a text's bytes, with some room behind them.
func value(text string) []byte {
	room := []byte(text + behind)
	return room[:len(text)]
}

// vote is a vote, with some room behind its Value.
func vote(slot, ballot uint64, text string) acceptor.Vote {
	return acceptor.Vote{Slot: slot, Ballot: ballot, Value: value(text)}
}

// votes are a list of votes.
func votes(l ...acceptor.Vote) []acceptor.Vote { return l }

// told is a vote as a text.
func told(v acceptor.Vote) string {
	return fmt.Sprintf("%d under %d: %.40q", v.Slot, v.Ballot, v.Value)
}

// same tells whether two votes are one, where nil and empty Values are.
func same(a, b acceptor.Vote) bool {
	return a.Slot == b.Slot && a.Ballot == b.Ballot && bytes.Equal(a.Value, b.Value)
}

// deep is a list that shares nothing with l.
func deep(l []acceptor.Vote) []acceptor.Vote {
	var c []acceptor.Vote
	for _, v := range l {
		c = append(c, vote(v.Slot, v.Ballot, string(v.Value)))
	}
	return c
}

// spoil changes bytes, and the room behind them.
func spoil(b []byte) {
	b = b[:cap(b)]
	for i := range b {
		b[i] ^= 255
	}
}

// spoilAll changes a list, all its Values, and what room there is behind them.
func spoilAll(l []acceptor.Vote) {
	l = l[:cap(l)]
	for i := range l {
		spoil(l[i].Value)
		l[i] = vote(77, 77, "spoiled")
	}
}

// isErr wants this error.
func isErr(t *testing.T, what string, got, want api.Errno) {
	t.Helper()
	if got != want {
		t.Errorf("%s: got error %d, want %d", what, got, want)
	}
}

// isVotes wants these votes.
func isVotes(t *testing.T, what string, got, want []acceptor.Vote) {
	t.Helper()
	if !slices.EqualFunc(got, want, same) {
		t.Errorf("%s: got %.300v, want %.300v", what, got, want)
	}
}

// isNew wants of New no error.
func isNew(t *testing.T, many int) *leader.Leader {
	t.Helper()
	l, e := leader.New(many)
	isErr(t, fmt.Sprintf("New(%d)", many), e, api.OK)
	if l == nil {
		t.Fatalf("New(%d): got nil", many)
	}
	return l
}

// isBegin wants of Begin this error.
func isBegin(t *testing.T, l *leader.Leader, ballot, from uint64, want api.Errno) {
	t.Helper()
	isErr(t, fmt.Sprintf("Begin(%d, %d)", ballot, from), l.Begin(ballot, from), want)
}

// promise is what an acceptor tells.
type promise struct {
	node        int
	ballot, low uint64
	votes       []acceptor.Vote
}

// tell hands a promise in; what was handed in, and what stands behind it, is as it was.
func tell(t *testing.T, l *leader.Leader, p promise) ([]acceptor.Vote, bool) {
	t.Helper()
	in := deep(p.votes)
	got, is := l.Promise(p.node, p.ballot, p.low, in)
	isVotes(t, "votes that were handed in", in, p.votes)
	for _, v := range in {
		n := len(v.Value)
		if got := string(v.Value[n : n+len(behind)]); got != behind {
			t.Errorf("behind the Value of %s stands %q", told(v), got)
		}
	}
	return got, is
}

// isPromise wants of Promise that it leads now, and these proposals.
func isPromise(t *testing.T, l *leader.Leader, p promise, want ...acceptor.Vote) {
	t.Helper()
	got, is := tell(t, l, p)
	what := fmt.Sprintf("Promise of %.200v", p)
	if !is {
		t.Errorf("%s: got false", what)
	}
	isVotes(t, what, got, want)
	isAt(t, l, true, p.ballot)
}

// isNoted wants of Promise nothing, false, be it noted or not.
func isNoted(t *testing.T, l *leader.Leader, p promise) {
	t.Helper()
	if got, is := tell(t, l, p); is || got != nil {
		t.Errorf("Promise of %.200v: got %.200v, %v, want nothing, false", p, got, is)
	}
}

// isPropose wants of Propose a proposal for this slot.
func isPropose(t *testing.T, l *leader.Leader, text string, slot uint64) {
	t.Helper()
	in := value(text)
	got, e := l.Propose(in)
	what := fmt.Sprintf("Propose(%.40q)", text)
	isErr(t, what, e, api.OK)
	if want := vote(slot, l.Ballot(), text); !same(got, want) {
		t.Errorf("%s: got %s, want %s", what, told(got), told(want))
	}
	if got := string(in[:len(text)+len(behind)]); got != text+behind {
		t.Errorf("%s changed it to %.60q", what, got)
	}
}

// isNotProposed wants of Propose this error, and nothing beside.
func isNotProposed(t *testing.T, l *leader.Leader, want api.Errno) {
	t.Helper()
	for _, v := range [][]byte{value("a"), {}, nil} {
		got, e := l.Propose(v)
		what := fmt.Sprintf("Propose(%q)", v)
		isErr(t, what, e, want)
		isNothing(t, what, got)
	}
}

// isNothing wants a vote that is none.
func isNothing(t *testing.T, what string, got acceptor.Vote) {
	t.Helper()
	if got.Slot != 0 || got.Ballot != 0 || got.Value != nil {
		t.Errorf("%s: got %s, want nothing", what, told(got))
	}
}

// isChosen wants of Accepted this proposal of l's.
func isChosen(t *testing.T, l *leader.Leader, node int, slot uint64, text string) {
	t.Helper()
	want := vote(slot, l.Ballot(), text)
	got, is := l.Accepted(node, want.Ballot, slot)
	if !is || !same(got, want) {
		t.Errorf("Accepted(%d, %d, %d): got %s, %v, want %s", node, want.Ballot, slot, told(got), is, told(want))
	}
}

// isNotChosen wants of Accepted nothing, false.
func isNotChosen(t *testing.T, l *leader.Leader, node int, ballot, slot uint64) {
	t.Helper()
	got, is := l.Accepted(node, ballot, slot)
	what := fmt.Sprintf("Accepted(%d, %d, %d)", node, ballot, slot)
	isNothing(t, what, got)
	if is {
		t.Errorf("%s: got true", what)
	}
}

// isAt wants this of Leads and Ballot.
func isAt(t *testing.T, l *leader.Leader, leads bool, ballot uint64) {
	t.Helper()
	if l.Leads() != leads || l.Ballot() != ballot {
		t.Errorf("got Leads %v, Ballot %d, want %v, %d", l.Leads(), l.Ballot(), leads, ballot)
	}
}

// isOpen wants it to lead, and just these proposals to be open.
func isOpen(t *testing.T, l *leader.Leader, ballot uint64, want ...acceptor.Vote) {
	t.Helper()
	for range 2 { // that they are told changes nothing
		isAt(t, l, true, ballot)
		isVotes(t, "Open", l.Open(), want)
	}
}

// isAsking wants it neither to lead nor to have anything open.
func isAsking(t *testing.T, l *leader.Leader, ballot uint64) {
	t.Helper()
	isAt(t, l, false, ballot)
	if got := l.Open(); got != nil {
		t.Errorf("Open: got %.200v, want nothing", got)
	}
	isNotProposed(t, l, api.ErrState)
	for node := -1; node <= api.MaxNode; node++ {
		for _, slot := range []uint64{0, 1, 2, 5, end - 1, end} {
			isNotChosen(t, l, node, ballot, slot)
		}
	}
}

// isIdle wants it to do nothing, whoever promises.
func isIdle(t *testing.T, l *leader.Leader, ballot uint64) {
	t.Helper()
	isAsking(t, l, ballot)
	for node := -1; node <= api.MaxNode; node++ {
		isNoted(t, l, promise{node, ballot, 0, nil})
		isNoted(t, l, promise{node, ballot, 1, votes(vote(1, 0, "a"))})
	}
	isAsking(t, l, ballot)
}

// isDeaf wants of one that leads nothing, whoever promises, and all that is open to stay.
func isDeaf(t *testing.T, l *leader.Leader) {
	t.Helper()
	ballot, open := l.Ballot(), l.Open()
	for node := -1; node <= api.MaxNode; node++ {
		isNoted(t, l, promise{node, ballot, 0, nil})
		isNoted(t, l, promise{node, ballot, end, votes(vote(end-1, ballot, "deaf"), vote(0, 0, "deaf"))})
	}
	isOpen(t, l, ballot, open...)
}

// majority is the lowest number of acceptors of which any two sets meet.
func majority(many int) int {
	n := 0
	for n+n <= many {
		n++
	}
	return n
}

// leading is one that leads: this vote list comes with the first promise, and these proposals are told.
func leading(t *testing.T, many int, ballot, from uint64, l []acceptor.Vote, want ...acceptor.Vote) *leader.Leader {
	t.Helper()
	r := isNew(t, many)
	isBegin(t, r, ballot, from, api.OK)
	for node := range majority(many) {
		p := promise{node: node, ballot: ballot}
		if node == 0 {
			p.votes = l
		}
		if node == majority(many)-1 {
			isPromise(t, r, p, want...)
		} else {
			isNoted(t, r, p)
		}
	}
	isOpen(t, r, ballot, want...)
	return r
}

// shuffled is the list in an order that looks like chance.
func shuffled[T any](c *rand.Rand, l []T) []T {
	l = slices.Clone(l)
	c.Shuffle(len(l), func(i, j int) { l[i], l[j] = l[j], l[i] })
	return l
}

// reversed is the list from its end on.
func reversed[T any](l []T) []T {
	l = slices.Clone(l)
	slices.Reverse(l)
	return l
}

// The chapter's example.
func TestExample(t *testing.T) {
	l := isNew(t, 3)
	isBegin(t, l, 5, 0, api.OK)
	isNoted(t, l, promise{0, 5, 0, nil})
	want := votes(vote(0, 5, ""), vote(1, 5, "b"))
	isPromise(t, l, promise{2, 5, 0, votes(vote(1, 3, "b"))}, want...)
	isOpen(t, l, 5, want...)
	isPropose(t, l, "c", 2)
}

// P15.1: New of numbers of acceptors that may be is idle, of ballot 0.
func TestNew(t *testing.T) {
	for many := 1; many <= 32; many++ {
		l := isNew(t, many)
		isIdle(t, l, 0)
		isBegin(t, l, 0, 0, api.ErrOld)
		isIdle(t, l, 0)
	}
}

// P15.1: New of numbers of acceptors that may not be.
func TestNewOfTooFewAndTooMany(t *testing.T) {
	for _, many := range []int{math.MinInt, math.MinInt32, -32, -2, -1, 0, 33, 34, 63, 64, 65, 256 + 3, 1 << 32, 1<<32 + 3, math.MaxInt} {
		l, e := leader.New(many)
		isErr(t, fmt.Sprintf("New(%d)", many), e, api.ErrArg)
		if l != nil {
			t.Errorf("New(%d): got a Leader beside an error", many)
		}
	}
}

// P15.1: two of them are two.
func TestTwoLeaders(t *testing.T) {
	a, b := isNew(t, 1), isNew(t, 1)
	isBegin(t, a, 5, 0, api.OK)
	isIdle(t, b, 0)
	isBegin(t, b, 4, 7, api.OK)
	isPromise(t, a, promise{0, 5, 0, nil})
	isAsking(t, b, 4)
	isPromise(t, b, promise{0, 4, 0, nil})
	isPropose(t, a, "a", 0)
	isOpen(t, b, 4)
	isPropose(t, b, "b", 7)
	isOpen(t, a, 5, vote(0, 5, "a"))
	isOpen(t, b, 4, vote(7, 4, "b"))
	b.Stop()
	isOpen(t, a, 5, vote(0, 5, "a"))
}

// P15.1, P15.2, P15.3: each call of nil.
func TestNil(t *testing.T) {
	var l *leader.Leader
	for _, x := range []uint64{0, 1, 5, 1 << 63, end} {
		for _, y := range []uint64{0, 1, 5, 1 << 63, end} {
			isBegin(t, l, x, y, api.ErrArg)
			for node := -1; node <= 33; node++ {
				isNoted(t, l, promise{node, x, y, nil})
				isNoted(t, l, promise{node, x, y, votes(vote(0, 0, "a"))})
				isNotChosen(t, l, node, x, y)
			}
		}
		isNotProposed(t, l, api.ErrArg)
		l.Stop()
		if got := l.Open(); got != nil {
			t.Errorf("Open: got %v, want nothing", got)
		}
		isAt(t, l, false, 0)
	}
}

// P15.1, P15.2, P15.3: one that New didn't make doesn't panic, and never leads, as it has no acceptors.
func TestZeroLeader(t *testing.T) {
	var l leader.Leader
	isIdle(t, &l, 0)
	l.Stop()
	isIdle(t, &l, 0)
	isBegin(t, &l, 5, 0, api.OK)
	isBegin(t, &l, 5, 0, api.ErrOld)
	isIdle(t, &l, 5)
	l.Stop()
	isIdle(t, &l, 5)
}

// P15.1: Begin of a ballot below Ballot, at it, and above it, while it is idle, asks, and leads, and behind Stop.
func TestBeginBallots(t *testing.T) {
	for _, ballot := range []uint64{1, 2, 5, 33, 1 << 31, 1 << 32, 1<<63 - 1, 1 << 63, end - 1, end} {
		old := func(l *leader.Leader) {
			t.Helper()
			for _, from := range []uint64{0, 9, end} {
				isBegin(t, l, ballot, from, api.ErrOld)
				isBegin(t, l, ballot-1, from, api.ErrOld)
				isBegin(t, l, 0, from, api.ErrOld)
			}
		}
		l := isNew(t, 3)
		isBegin(t, l, 0, 3, api.ErrOld)
		isBegin(t, l, ballot, 3, api.OK)
		isAsking(t, l, ballot)
		old(l)
		isAsking(t, l, ballot)
		isNoted(t, l, promise{1, ballot, 0, nil})
		old(l)
		isPromise(t, l, promise{2, ballot, 0, votes(vote(3, 0, "a"))}, vote(3, ballot, "a")) // promised, and from slot 3 on, as ahead
		old(l)
		isOpen(t, l, ballot, vote(3, ballot, "a"))
		l.Stop()
		old(l)
		isIdle(t, l, ballot)
		if ballot < end {
			isBegin(t, l, ballot+1, 0, api.OK)
			isAsking(t, l, ballot+1)
			old(l)
		}
	}
}

// P15.1: from of any slot, below the one ahead too.
func TestBeginFrom(t *testing.T) {
	l := isNew(t, 1)
	for i, from := range []uint64{7, 0, 1, 1 << 32, 1 << 63, 2, end - 1, 1, end, 0} {
		ballot := uint64(i) + 1
		isBegin(t, l, ballot, from, api.OK)
		isPromise(t, l, promise{0, ballot, 0, nil})
		isOpen(t, l, ballot)
		if from == end {
			isNotProposed(t, l, api.ErrWorn)
			isOpen(t, l, ballot)
			continue
		}
		isPropose(t, l, "a", from)
		isOpen(t, l, ballot, vote(from, ballot, "a"))
	}
}

// P15.1: Begin while it asks forgets promises, lows and votes.
func TestBeginWhileItAsks(t *testing.T) {
	l := isNew(t, 5)
	isBegin(t, l, 2, 0, api.OK)
	isNoted(t, l, promise{0, 2, 50, votes(vote(60, 1, "a"))})
	isNoted(t, l, promise{1, 2, 0, votes(vote(4, 1, "b"))})
	isBegin(t, l, 3, 3, api.OK)
	isAsking(t, l, 3)
	isNoted(t, l, promise{2, 2, 90, votes(vote(91, 2, "old"))}) // of the ballot ahead
	isNoted(t, l, promise{2, 3, 0, nil})
	isNoted(t, l, promise{0, 3, 0, nil}) // promises of these two count once more
	isPromise(t, l, promise{1, 3, 0, votes(vote(3, 0, "c"))}, vote(3, 3, "c"))
	isPropose(t, l, "d", 4)
}

// P15.1: Begin while it leads asks, and nothing is open; votes of the ballot ahead are for nothing.
func TestBeginWhileItLeads(t *testing.T) {
	l := leading(t, 3, 2, 1, votes(vote(2, 1, "a")), vote(1, 2, ""), vote(2, 2, "a"))
	isPropose(t, l, "b", 3)
	isNotChosen(t, l, 0, 2, 3)
	isBegin(t, l, 7, 1, api.OK)
	isAsking(t, l, 7)
	isNotChosen(t, l, 1, 2, 3)
	isNoted(t, l, promise{2, 7, 0, nil})
	isPromise(t, l, promise{0, 7, 0, votes(vote(3, 2, "b"))}, vote(1, 7, ""), vote(2, 7, ""), vote(3, 7, "b"))
	isNotChosen(t, l, 1, 2, 3) // the ballot ahead
	isNotChosen(t, l, 1, 7, 3) // what was voted for under it doesn't count
	isChosen(t, l, 2, 3, "b")
	isPropose(t, l, "c", 4)
	isOpen(t, l, 7, vote(1, 7, ""), vote(2, 7, ""), vote(4, 7, "c"))
}

// P15.1: Stop while it is idle, asks, and leads; its Ballot stays, and nothing else.
func TestStop(t *testing.T) {
	l := isNew(t, 3)
	l.Stop()
	isIdle(t, l, 0)
	isBegin(t, l, 4, 2, api.OK)
	isNoted(t, l, promise{0, 4, 8, votes(vote(9, 3, "a"))})
	l.Stop()
	isIdle(t, l, 4)
	isNoted(t, l, promise{1, 4, 0, nil})
	l.Stop()
	isIdle(t, l, 4)
	isBegin(t, l, 5, 2, api.OK)
	isNoted(t, l, promise{1, 5, 0, nil})
	isPromise(t, l, promise{2, 5, 0, votes(vote(2, 4, "b"))}, vote(2, 5, "b"))
	isPropose(t, l, "c", 3)
	l.Stop()
	isIdle(t, l, 5)
	for node := range 3 {
		isNotChosen(t, l, node, 5, 2)
		isNotChosen(t, l, node, 5, 3)
	}
	isBegin(t, l, 6, 0, api.OK)
	isNoted(t, l, promise{1, 6, 0, nil})
	isPromise(t, l, promise{2, 6, 0, nil})
	isOpen(t, l, 6)
	isPropose(t, l, "d", 0)
}

// P15.2: of each number of acceptors the promise that makes the majority lets it lead, and none ahead or behind.
func TestPromiseOfTheMajority(t *testing.T) {
	c := rand.New(rand.NewSource(15))
	for many := 1; many <= 32; many++ {
		rising := make([]int, many)
		for i := range rising {
			rising[i] = i
		}
		for _, order := range [][]int{rising, reversed(rising), shuffled(c, rising), shuffled(c, rising)} {
			l := isNew(t, many)
			isBegin(t, l, 9, 2, api.OK)
			for i, node := range order {
				p := promise{node, 9, 0, nil}
				if i+1 == majority(many) {
					isPromise(t, l, p)
				} else {
					isNoted(t, l, p)
				}
				for _, again := range order[:i+1] { // who promised already isn't counted
					isNoted(t, l, promise{again, 9, 0, nil})
				}
				isAt(t, l, i+1 >= majority(many), 9)
			}
			isOpen(t, l, 9)
			isDeaf(t, l)
			isPropose(t, l, "a", 2)
		}
	}
}

// P15.2: the majorities of the numbers that the chapter's words make.
func TestMajorities(t *testing.T) {
	for many, want := range map[int]int{1: 1, 2: 2, 3: 2, 4: 3, 5: 3, 6: 4, 7: 4, 31: 16, 32: 17} {
		l := isNew(t, many)
		isBegin(t, l, 1, 0, api.OK)
		for node := range want - 1 {
			isNoted(t, l, promise{node, 1, 0, nil})
		}
		isPromise(t, l, promise{many - 1, 1, 0, nil})
		isPropose(t, l, "a", 0)
		for node := range want - 1 {
			isNotChosen(t, l, node, 1, 0)
		}
		isChosen(t, l, many-1, 0, "a")
		isOpen(t, l, 1)
	}
}

// P15.2: what isn't to be noted isn't: neither who promised, nor the low, nor the votes.
func TestPromiseThatIsNotNoted(t *testing.T) {
	for _, many := range []int{2, 3, 4, 5, 31, 32} {
		l := isNew(t, many)
		wrong := votes(vote(3, 8, "wrong"), vote(40, 8, "wrong"))
		refuse := func(p promise) {
			t.Helper()
			p.low, p.votes = 50, wrong
			isNoted(t, l, p)
		}
		refuse(promise{node: 0, ballot: 0}) // while it is idle
		isBegin(t, l, 9, 2, api.OK)
		all := func() {
			t.Helper()
			for _, ballot := range []uint64{0, 1, 8, 10, 9 + 1<<32, 9 + 1<<63, end} {
				for node := -1; node <= many; node++ {
					refuse(promise{node: node, ballot: ballot})
				}
			}
			for _, node := range []int{math.MinInt, -1 << 32, -33, -32, -2, -1, many, many + 1, 32, 33, 63, 64, 1 << 32, 1<<32 + 1, math.MaxInt} {
				refuse(promise{node: node, ballot: 9})
			}
		}
		all()
		for i := range majority(many) - 1 {
			isNoted(t, l, promise{many - 1 - i, 9, 0, votes(vote(3, uint64(i), "a"+strconv.Itoa(i)))})
			refuse(promise{node: many - 1 - i, ballot: 9}) // it promised already
			all()
		}
		isPromise(t, l, promise{0, 9, 0, nil}, vote(2, 9, ""), vote(3, 9, "a"+strconv.Itoa(majority(many)-2)))
		isPropose(t, l, "b", 4)
	}
}

// P15.2: a low below the first slot, at it, and above it, told by the last promise, by one ahead, and by both.
func TestLow(t *testing.T) {
	told := votes(vote(3, 1, "c"), vote(6, 1, "f"))
	values := map[uint64]string{3: "c", 6: "f"}
	for from := range uint64(9) {
		for low := range uint64(9) {
			for other := range uint64(9) {
				l := isNew(t, 3)
				isBegin(t, l, 9, from, api.OK)
				isNoted(t, l, promise{1, 9, low, told})
				first := max(from, low, other)
				var want []acceptor.Vote
				for slot := first; slot <= 6; slot++ {
					want = append(want, vote(slot, 9, values[slot]))
				}
				isPromise(t, l, promise{2, 9, other, nil}, want...)
				isOpen(t, l, 9, want...)
				isPropose(t, l, "x", max(first, 7))
			}
		}
	}
}

// P15.2: of three promises the greatest low is the first slot, whoever tells it.
func TestLowOfSeveral(t *testing.T) {
	for _, lows := range [][]uint64{{5, 3, 1}, {1, 5, 3}, {1, 3, 5}, {5, 5, 5}, {0, 0, 5}, {5, 0, 0}, {2, 5, 5}} {
		l := isNew(t, 5)
		isBegin(t, l, 9, 2, api.OK)
		isNoted(t, l, promise{0, 9, lows[0], votes(vote(4, 1, "a"))})
		isNoted(t, l, promise{1, 9, lows[1], votes(vote(5, 1, "b"))})
		isPromise(t, l, promise{2, 9, lows[2], votes(vote(3, 1, "c"))}, vote(5, 9, "b"))
		isPropose(t, l, "x", 6)
	}
}

// P15.2: a low of a slot far behind.
func TestLowFarBehind(t *testing.T) {
	for _, low := range []uint64{1 << 31, 1 << 32, 1 << 63, end - 2, end - 1} {
		l := isNew(t, 2)
		isBegin(t, l, 9, 2, api.OK)
		isNoted(t, l, promise{0, 9, low, votes(vote(2, 1, "a"), vote(low-1, 1, "b"))})
		isPromise(t, l, promise{1, 9, 0, votes(vote(low, 1, "c"))}, vote(low, 9, "c"))
		if low == end-1 {
			isNotProposed(t, l, api.ErrWorn)
		} else {
			isPropose(t, l, "x", low+1)
		}
	}
	l := isNew(t, 1)
	isBegin(t, l, 9, 2, api.OK)
	isPromise(t, l, promise{0, 9, end, votes(vote(2, 1, "a"), vote(end-1, 1, "b"))})
	isOpen(t, l, 9)
	isNotProposed(t, l, api.ErrWorn)
}

// P15.2: votes for slots ahead of the first one alone: nothing is proposed, and the next slot is the first one.
func TestVotesAheadOfTheFirstSlotAlone(t *testing.T) {
	for _, ahead := range [][]acceptor.Vote{
		nil,
		votes(vote(0, 1, "a")),
		votes(vote(6, 1, "a")),
		votes(vote(6, 8, "a"), vote(0, 3, "b")),
		votes(vote(0, 3, "b"), vote(5, 2, ""), vote(6, 8, "a")),
	} {
		l := leading(t, 3, 9, 7, ahead)
		isDeaf(t, l)
		isPropose(t, l, "x", 7)
		l = isNew(t, 3)
		isBegin(t, l, 9, 0, api.OK) // it is the low that is behind
		isNoted(t, l, promise{1, 9, 0, ahead})
		isPromise(t, l, promise{0, 9, 7, ahead})
		isOpen(t, l, 9)
		isPropose(t, l, "x", 7)
	}
}

// P15.2: votes from the first slot on, with and without slots between; one that has no bytes is a vote, too.
func TestVotesFromTheFirstSlotOn(t *testing.T) {
	leading(t, 3, 9, 7, votes(vote(7, 1, "a")), vote(7, 9, "a"))
	leading(t, 3, 9, 7, votes(vote(8, 1, "a")), vote(7, 9, ""), vote(8, 9, "a"))
	leading(t, 3, 9, 7, votes(vote(7, 1, "a"), vote(6, 1, "b")), vote(7, 9, "a"))
	leading(t, 3, 9, 7, votes(vote(9, 1, "")), vote(7, 9, ""), vote(8, 9, ""), vote(9, 9, ""))
	l := leading(t, 3, 9, 0, votes(vote(4, 1, "d"), vote(1, 3, "a"), vote(2, 2, "")),
		vote(0, 9, ""), vote(1, 9, "a"), vote(2, 9, ""), vote(3, 9, ""), vote(4, 9, "d"))
	isPropose(t, l, "e", 5)
}

// P15.2: a slot that was voted for under many ballots, up to the greatest one there is, has the vote of the greatest ballot.
func TestBallotsOfOneSlot(t *testing.T) {
	c := rand.New(rand.NewSource(152))
	rising := votes(vote(4, 0, "zero"), vote(4, 1, "one"), vote(4, 7, "seven"), vote(4, 9, "its own"), vote(4, 1<<32, "a"), vote(4, 1<<63, "b"), vote(4, end, "c"))
	for n := 1; n <= len(rising); n++ {
		best := string(rising[n-1].Value)
		for _, order := range [][]acceptor.Vote{rising[:n], reversed(rising[:n]), shuffled(c, rising[:n]), shuffled(c, rising[:n])} {
			leading(t, 3, 9, 4, order, vote(4, 9, best)) // of one acceptor
			l := isNew(t, 13)                            // of as many acceptors as votes
			isBegin(t, l, 9, 4, api.OK)
			for node := range 6 {
				p := promise{node, 9, 0, nil}
				if node < n-1 {
					p.votes = order[node : node+1]
				}
				isNoted(t, l, p)
			}
			isPromise(t, l, promise{12, 9, 0, order[n-1:]}, vote(4, 9, best))
		}
	}
}

// P15.2: of votes of alike ballots the first one that was told is known, of one promise and of several.
func TestAlikeBallots(t *testing.T) {
	for _, ballot := range []uint64{0, 1, 8, end} {
		a, b, c := vote(4, ballot, "a"), vote(4, ballot, "b"), vote(4, ballot, "")
		for _, order := range [][]acceptor.Vote{votes(a, b, c), votes(b, c, a), votes(c, a, b), votes(c, b, a), votes(a, a, b)} {
			first := string(order[0].Value)
			leading(t, 3, 9, 4, order, vote(4, 9, first))
			leading(t, 3, 9, 4, slices.Concat(order, order), vote(4, 9, first))
			l := isNew(t, 5)
			isBegin(t, l, 9, 4, api.OK)
			isNoted(t, l, promise{2, 9, 0, order[:1]})
			isNoted(t, l, promise{1, 9, 0, order[1:2]})
			isPromise(t, l, promise{0, 9, 0, order[2:]}, vote(4, 9, first))
		}
	}
	// A lower one ahead and one behind make no difference; a greater one does.
	leading(t, 3, 9, 4, votes(vote(4, 1, "low"), vote(4, 2, "a"), vote(4, 2, "b"), vote(4, 1, "low")), vote(4, 9, "a"))
	leading(t, 3, 9, 4, votes(vote(4, 2, "a"), vote(4, 3, "c"), vote(4, 2, "b"), vote(4, 3, "d")), vote(4, 9, "c"))
}

// P15.2: votes for several slots of several acceptors, told in all orders of acceptors, and slots rising, falling and mixed.
func TestOrdersOfPromises(t *testing.T) {
	c := rand.New(rand.NewSource(153))
	of := [][]acceptor.Vote{
		votes(vote(0, 8, "ahead"), vote(2, 1, "x"), vote(5, 3, "five"), vote(6, 2, "x")),
		votes(vote(1, 4, "ahead"), vote(2, 4, "two"), vote(3, 2, "three"), vote(6, 1, "x")),
		votes(vote(5, 1, "x"), vote(6, 6, "six"), vote(8, 1, "eight")),
	}
	want := votes(vote(2, 9, "two"), vote(3, 9, "three"), vote(4, 9, ""), vote(5, 9, "five"), vote(6, 9, "six"), vote(7, 9, ""), vote(8, 9, "eight"))
	for _, order := range [][]int{{0, 1, 2}, {0, 2, 1}, {1, 0, 2}, {1, 2, 0}, {2, 0, 1}, {2, 1, 0}} {
		for _, lay := range []func([]acceptor.Vote) []acceptor.Vote{
			slices.Clone[[]acceptor.Vote],
			reversed[acceptor.Vote],
			func(l []acceptor.Vote) []acceptor.Vote { return shuffled(c, l) },
		} {
			for _, base := range []int{0, 1, 2} { // other nodes
				l := isNew(t, 5)
				isBegin(t, l, 9, 2, api.OK)
				isNoted(t, l, promise{order[0] + base, 9, 0, lay(of[order[0]])})
				isNoted(t, l, promise{order[1] + base, 9, 0, lay(of[order[1]])})
				isPromise(t, l, promise{order[2] + base, 9, 0, lay(of[order[2]])}, want...)
				isOpen(t, l, 9, want...)
				isPropose(t, l, "y", 9)
			}
		}
	}
}

// P15.2: a last slot of 2^64 - 2 is proposed for, and behind it no other one is.
func TestLastSlotOfTheRow(t *testing.T) {
	for _, from := range []uint64{end - 1, end - 2, end - 5} {
		var want []acceptor.Vote
		for slot := from; slot < end-1; slot++ {
			want = append(want, vote(slot, 9, ""))
		}
		want = append(want, vote(end-1, 9, "last"))
		l := leading(t, 3, 9, from, votes(vote(end-1, 1, "last")), want...)
		isNotProposed(t, l, api.ErrWorn)
		isOpen(t, l, 9, want...)
		isNotChosen(t, l, 0, 9, end-1)
		isChosen(t, l, 1, end-1, "last")
		isNotProposed(t, l, api.ErrWorn)
		isOpen(t, l, 9, want[:len(want)-1]...)
	}
}

// P15.2: with a known vote for slot 2^64 - 1 it becomes idle, wherever the first slot is.
func TestVoteForTheSlotThatIsNone(t *testing.T) {
	for _, first := range []uint64{0, 1, 1 << 63, end - 4096, end - 4095, end - 1, end} {
		for _, l := range [][]acceptor.Vote{
			votes(vote(end, 1, "a")),
			votes(vote(end, 0, "")),
			votes(vote(end-1, 7, "b"), vote(end, 1, "a")),
			votes(vote(end, 1, "a"), vote(first, 7, "b")),
		} {
			isTooFar(t, first, l)
		}
	}
}

// isTooFar wants of the promise that makes a majority that it becomes idle, be the votes told then or ahead, and the first slot by Begin or as a low.
func isTooFar(t *testing.T, first uint64, far []acceptor.Vote) {
	t.Helper()
	for _, from := range []uint64{0, first} {
		for _, last := range []bool{true, false} {
			l := isNew(t, 3)
			isBegin(t, l, 9, from, api.OK)
			a, b := promise{0, 9, first, far}, promise{2, 9, 0, nil}
			if last {
				a, b = b, a
			}
			isNoted(t, l, a)
			isNoted(t, l, b)
			isIdle(t, l, 9)
			isBegin(t, l, 9, 0, api.ErrOld)
			isBegin(t, l, 10, 1, api.OK) // nothing of it is left
			isNoted(t, l, promise{1, 10, 0, nil})
			isPromise(t, l, promise{0, 10, 0, nil})
			isOpen(t, l, 10)
			isPropose(t, l, "a", 1)
		}
	}
}

// P15.2: 4096 slots are proposed for, and 4097 aren't, by what there is from the first slot on.
func TestManySlots(t *testing.T) {
	for _, first := range []uint64{0, 1, 77, 1 << 32, 1 << 63, end - mostSlots} {
		last := first + mostSlots - 1
		want := make([]acceptor.Vote, mostSlots)
		for i := range want {
			want[i] = vote(first+uint64(i), 9, "")
		}
		want[0].Value, want[mostSlots-1].Value = value("first"), value("last")
		l := leading(t, 2, 9, first, votes(vote(last, 1, "last"), vote(first, 1, "first")), want...)
		if first < end-mostSlots {
			isPropose(t, l, "behind", last+1)
			isTooFar(t, first, votes(vote(last+1, 1, "a")))
			isTooFar(t, first, votes(vote(first, 1, "b"), vote(last+1, 1, "a")))
		}
	}
	isTooFar(t, end-mostSlots-1, votes(vote(end-1, 1, "a")))
	for _, far := range []uint64{mostSlots, mostSlots + 1, 10000, 1 << 16, 1 << 32, 1<<32 + 1, 1 << 63, end - 1} {
		isTooFar(t, 0, votes(vote(far, 1, "a")))
	}
	// What is ahead of the first slot doesn't count, and a low that comes last moves it.
	l := isNew(t, 3)
	isBegin(t, l, 9, 0, api.OK)
	isNoted(t, l, promise{0, 9, 0, votes(vote(0, 1, "a"), vote(mostSlots+3, 1, "b"))})
	got, is := tell(t, l, promise{1, 9, 4, nil})
	if !is || len(got) != mostSlots || got[0].Slot != 4 || !same(got[mostSlots-1], vote(mostSlots+3, 9, "b")) {
		t.Errorf("got %d proposals, %v", len(got), is)
	}
}

// P15.2: a vote for each of 4096 slots, with other values, in mixed order, of all acceptors of a majority.
func TestManyVotes(t *testing.T) {
	c := rand.New(rand.NewSource(154))
	var all, want []acceptor.Vote
	for i := range uint64(mostSlots) {
		all = append(all, vote(i+5, i%7, strconv.FormatUint(i, 10)))
		want = append(want, vote(i+5, 9, strconv.FormatUint(i, 10)))
	}
	l := isNew(t, 5)
	isBegin(t, l, 9, 5, api.OK)
	isNoted(t, l, promise{0, 9, 0, shuffled(c, all)})
	isNoted(t, l, promise{1, 9, 0, shuffled(c, all[:mostSlots/2])})
	isPromise(t, l, promise{2, 9, 0, shuffled(c, all)}, want...)
	isOpen(t, l, 9, want...)
	for _, i := range c.Perm(mostSlots) {
		isNotChosen(t, l, 3, 9, want[i].Slot)
		isNotChosen(t, l, 1, 9, want[i].Slot)
		isChosen(t, l, 4, want[i].Slot, string(want[i].Value))
	}
	isOpen(t, l, 9)
}

// P15.2: behind the majority nothing that is promised counts: what is open, and the next slot, stay.
func TestPromiseBehindTheMajority(t *testing.T) {
	for _, many := range []int{1, 2, 3, 4, 5, 32} {
		l := leading(t, many, 9, 1, votes(vote(2, 1, "a")), vote(1, 9, ""), vote(2, 9, "a"))
		isDeaf(t, l)
		for node := range many {
			isNoted(t, l, promise{node, 9, 70, votes(vote(1, 8, "late"), vote(71, 8, "late"))})
			isOpen(t, l, 9, vote(1, 9, ""), vote(2, 9, "a"))
		}
		isPropose(t, l, "b", 3)
		isDeaf(t, l)
		isPropose(t, l, "c", 4)
	}
}

// P15.3: Propose while it doesn't lead tells so, and nothing comes of it.
func TestProposeWhileItDoesNotLead(t *testing.T) {
	l := isNew(t, 3)
	isNotProposed(t, l, api.ErrState)
	isBegin(t, l, 2, 7, api.OK)
	isNotProposed(t, l, api.ErrState)
	isNoted(t, l, promise{0, 2, 0, nil})
	isNotProposed(t, l, api.ErrState)
	isPromise(t, l, promise{1, 2, 0, nil})
	isOpen(t, l, 2)
	isPropose(t, l, "a", 7)
	l.Stop()
	isNotProposed(t, l, api.ErrState)
	isBegin(t, l, 3, end, api.OK)
	isNotProposed(t, l, api.ErrState) // ahead of a next slot that there isn't
	l.Stop()
	isIdle(t, l, 3)
}

// P15.3: each Propose is for the next slot, and is open; values of any length, nil and empty ones too.
func TestPropose(t *testing.T) {
	l := leading(t, 3, 9, 4, nil)
	var want []acceptor.Vote
	for i, n := range []int{1, 0, 2, 255, 256, 0, 4000, 4001, 32768, 32769, 65536, 100000} {
		text := string(bytes.Repeat([]byte{0, 'a', 255}, n/3+1)[:n])
		slot := uint64(i) + 4
		isPropose(t, l, text, slot)
		want = append(want, vote(slot, 9, text))
		isOpen(t, l, 9, want...)
	}
	for _, v := range [][]byte{nil, {}} {
		slot := 4 + uint64(len(want))
		got, e := l.Propose(v)
		isErr(t, "Propose of no bytes", e, api.OK)
		isVotes(t, "Propose of no bytes", votes(got), votes(vote(slot, 9, "")))
		want = append(want, vote(slot, 9, ""))
		isOpen(t, l, 9, want...)
	}
	isPropose(t, l, "same", 18)
	isPropose(t, l, "same", 19)
}

// P15.3: more than 4096 may be open, if they are asked for one by one.
func TestProposeMany(t *testing.T) {
	l := leading(t, 1, 1, 0, nil)
	var want []acceptor.Vote
	for i := range uint64(3 * mostSlots) {
		isPropose(t, l, strconv.FormatUint(i, 10), i)
		want = append(want, vote(i, 1, strconv.FormatUint(i, 10)))
	}
	isOpen(t, l, 1, want...)
	for i := range uint64(3 * mostSlots) {
		if i%3 > 0 {
			isChosen(t, l, 0, i, strconv.FormatUint(i, 10))
		}
	}
	isOpen(t, l, 1, slices.DeleteFunc(want, func(v acceptor.Vote) bool { return v.Slot%3 > 0 })...)
}

// P15.3: Propose, when the next slot is 2^64 - 2 and 2^64 - 1.
func TestProposeWorn(t *testing.T) {
	l := leading(t, 3, 9, end-3, votes(vote(end-3, 1, "a")), vote(end-3, 9, "a"))
	isPropose(t, l, "b", end-2)
	isPropose(t, l, "c", end-1)
	open := votes(vote(end-3, 9, "a"), vote(end-2, 9, "b"), vote(end-1, 9, "c"))
	for range 3 {
		isNotProposed(t, l, api.ErrWorn)
		isOpen(t, l, 9, open...)
	}
	for node := range 3 {
		isNotChosen(t, l, node, 9, end)
		isNotChosen(t, l, node, 9, 0)
	}
	isNotChosen(t, l, 1, 9, end-1)
	isChosen(t, l, 0, end-1, "c")
	isNotProposed(t, l, api.ErrWorn)
	isOpen(t, l, 9, open[:2]...)
	isBegin(t, l, 10, 0, api.OK)
	isNoted(t, l, promise{0, 10, 0, nil})
	isPromise(t, l, promise{1, 10, 0, nil})
	isPropose(t, l, "d", 0)
}

// P15.3: of each number of acceptors the vote that makes the majority tells the proposal, and none ahead or behind; each slot has votes of its own.
func TestAcceptedOfTheMajority(t *testing.T) {
	c := rand.New(rand.NewSource(155))
	for many := 1; many <= 32; many++ {
		l := leading(t, many, 9, 0, votes(vote(0, 1, "a")), vote(0, 9, "a"))
		isPropose(t, l, "b", 1)
		isPropose(t, l, "c", 2)
		isPropose(t, l, "", 3)
		open := map[uint64]string{0: "a", 1: "b", 2: "c", 3: ""}
		rising := make([]int, many)
		for i := range rising {
			rising[i] = i
		}
		for j, order := range [][]int{reversed(rising), shuffled(c, rising), rising, shuffled(c, rising)} {
			slot := []uint64{2, 0, 3, 1}[j]
			for i, node := range order {
				if i+1 == majority(many) {
					isChosen(t, l, node, slot, open[slot])
					delete(open, slot)
				} else {
					isNotChosen(t, l, node, 9, slot)
				}
				for _, again := range order[:i+1] { // who voted already isn't counted
					isNotChosen(t, l, again, 9, slot)
				}
				var want []acceptor.Vote
				for s := range uint64(4) {
					if text, is := open[s]; is {
						want = append(want, vote(s, 9, text))
					}
				}
				isOpen(t, l, 9, want...)
			}
		}
		isPropose(t, l, "d", 4)
	}
}

// P15.3: votes for several slots go by turns, in rising, falling and mixed order.
func TestAcceptedByTurns(t *testing.T) {
	c := rand.New(rand.NewSource(156))
	for _, many := range []int{1, 2, 3, 4, 5, 32} {
		l := leading(t, many, 9, 10, nil)
		var open []acceptor.Vote
		var slots []uint64
		for i := range uint64(20) {
			isPropose(t, l, strconv.FormatUint(i*i, 10), i+10)
			slots = append(slots, i+10)
			open = append(open, vote(i+10, 9, strconv.FormatUint(i*i, 10)))
		}
		for node := range majority(many) - 1 {
			for _, slot := range [][]uint64{slots, reversed(slots), shuffled(c, slots)}[node%3] {
				isNotChosen(t, l, many-1-node, 9, slot)
			}
		}
		isOpen(t, l, 9, open...)
		for _, slot := range shuffled(c, slots) {
			isChosen(t, l, 0, slot, strconv.FormatUint((slot-10)*(slot-10), 10))
			open = slices.DeleteFunc(open, func(v acceptor.Vote) bool { return v.Slot == slot })
			isOpen(t, l, 9, open...)
		}
		isPropose(t, l, "x", 30)
	}
}

// P15.3: votes that don't count: of nodes that there aren't, of another ballot, of a slot that isn't open, of one that was, and twice of one node.
func TestAcceptedThatDoesNotCount(t *testing.T) {
	for _, many := range []int{1, 2, 3, 4, 5, 31, 32} {
		l := leading(t, many, 9, 5, votes(vote(6, 1, "b")), vote(5, 9, ""), vote(6, 9, "b"))
		isPropose(t, l, "c", 7)
		all := func() {
			t.Helper()
			open := l.Open()
			for _, slot := range []uint64{5, 6, 7} {
				for _, node := range []int{math.MinInt, -1 << 32, -33, -32, -2, -1, many, many + 1, 32, 33, 63, 64, 1 << 32, 1<<32 + 1, math.MaxInt} {
					isNotChosen(t, l, node, 9, slot)
				}
				for _, ballot := range []uint64{0, 1, 8, 10, 9 + 1<<32, 9 + 1<<63, end} {
					for node := range many {
						isNotChosen(t, l, node, ballot, slot)
					}
				}
			}
			for _, slot := range []uint64{0, 1, 4, 8, 9, 5 + 1<<32, 5 + 1<<63, end - 1, end} {
				for node := range many {
					isNotChosen(t, l, node, 9, slot)
				}
			}
			isOpen(t, l, 9, open...)
		}
		all()
		for i := range majority(many) - 1 {
			for range 3 {
				isNotChosen(t, l, many-1-i, 9, 6)
			}
			all()
		}
		isChosen(t, l, 0, 6, "b")
		for node := range many { // it was open
			isNotChosen(t, l, node, 9, 6)
		}
		all()
		isOpen(t, l, 9, vote(5, 9, ""), vote(7, 9, "c"))
		isPropose(t, l, "d", 8)
		if many > 1 { // no vote for the slot ahead of its proposal counts
			isNotChosen(t, l, 0, 9, 8)
		}
	}
}

// P15.3: a promise is no vote: who promised must vote, too.
func TestPromiseIsNoVote(t *testing.T) {
	l := leading(t, 3, 9, 0, votes(vote(0, 1, "a")), vote(0, 9, "a"))
	isNotChosen(t, l, 2, 9, 0)
	isNotChosen(t, l, 2, 9, 0)
	isOpen(t, l, 9, vote(0, 9, "a"))
	isChosen(t, l, 1, 0, "a")
}

// P15.2, P15.3: what is handed in isn't kept: Values of votes, the list of votes, a value that is asked for.
func TestKeepsNothingThatIsHandedIn(t *testing.T) {
	room := []byte("abcdef")
	first := []acceptor.Vote{{Slot: 1, Ballot: 2, Value: room[:3]}, {Slot: 2, Ballot: 2, Value: room[1:4]}, {Slot: 3, Ballot: 1, Value: room}}
	l := isNew(t, 5)
	isBegin(t, l, 9, 1, api.OK)
	l.Promise(0, 9, 0, first)
	spoilAll(first)
	spoil(room)
	second := votes(vote(3, 5, "new"), vote(2, 1, "old"))
	l.Promise(1, 9, 0, second)
	spoilAll(second)
	third := votes(vote(4, 1, "last"))
	got, is := l.Promise(2, 9, 0, third)
	spoilAll(third)
	want := votes(vote(1, 9, "abc"), vote(2, 9, "bcd"), vote(3, 9, "new"), vote(4, 9, "last"))
	if !is {
		t.Error("it doesn't lead")
	}
	isVotes(t, "Promise", got, want)
	isOpen(t, l, 9, want...)
	in := value("asked")
	p, _ := l.Propose(in)
	q, _ := l.Propose(in[:2])
	spoil(in)
	isVotes(t, "Propose", votes(p, q), votes(vote(5, 9, "asked"), vote(6, 9, "as")))
	isOpen(t, l, 9, append(want, vote(5, 9, "asked"), vote(6, 9, "as"))...)
}

// P15.2, P15.3: what is told is in new memory: whatever is done with it, neither the Leader nor another answer changes.
func TestAnswersAreInNewMemory(t *testing.T) {
	for n := range 20 { // of many lengths: room that is left over would show
		text := string(bytes.Repeat([]byte("v"), n))
		in := votes(vote(0, 1, text+"a"), vote(2, 1, text))
		l := isNew(t, 3)
		isBegin(t, l, 9, 0, api.OK)
		isNoted(t, l, promise{0, 9, 0, in})
		list, _ := l.Promise(1, 9, 0, nil)
		open := l.Open()
		p, _ := l.Propose(value(text + "c"))
		want := votes(vote(0, 9, text+"a"), vote(1, 9, ""), vote(2, 9, text), vote(3, 9, text+"c"))
		kept := l.Open()
		spoilAll(list)
		isVotes(t, "Open behind spoiled proposals", open, want[:3])
		spoilAll(open)
		isVotes(t, "Open behind another one that is spoiled", kept, want)
		spoil(p.Value)
		isOpen(t, l, 9, want...)
		_ = append(kept[0].Value, "grown over all that is behind"...)
		spoil(kept[0].Value)
		isVotes(t, "other votes of the answer", kept[1:], want[1:])
		isNotChosen(t, l, 0, 9, 2)
		isNotChosen(t, l, 0, 9, 3)
		chosen, _ := l.Accepted(2, 9, 2)
		other, _ := l.Accepted(2, 9, 3)
		isVotes(t, "Accepted", votes(chosen, other), want[2:])
		spoil(chosen.Value)
		isVotes(t, "Accepted behind a spoiled one", votes(other), want[3:])
		isVotes(t, "Open behind a spoiled choice", kept[1:], want[1:])
		isOpen(t, l, 9, want[:2]...)
		l.Stop()
		isVotes(t, "an answer behind Stop", append(kept[1:], other), append(want[1:], want[3]))
	}
}

// P15.2: one Value of several votes comes back as several, each of its own.
func TestOneValueOfSeveralVotes(t *testing.T) {
	v := value("same")
	l := isNew(t, 1)
	isBegin(t, l, 9, 0, api.OK)
	got, _ := l.Promise(0, 9, 0, []acceptor.Vote{{Slot: 0, Value: v}, {Slot: 1, Value: v}, {Slot: 2, Value: v}})
	want := votes(vote(0, 9, "same"), vote(1, 9, "same"), vote(2, 9, "same"))
	isVotes(t, "Promise", got, want)
	spoil(got[1].Value)
	got[1].Value = value("same")
	isVotes(t, "Promise behind a spoiled Value", got, want)
	isOpen(t, l, 9, want...)
}

// asked is a proposal that is open, and who voted for it.
type asked struct {
	vote acceptor.Vote
	by   []int
}

// model is a leader in the document's words: all that was told since Begin, one behind the other.
type model struct {
	many        int
	ballot      uint64
	doing       string // idle, asks, leads
	first, next uint64
	promised    []int
	told        []acceptor.Vote
	open        []asked
}

func (m *model) begin(ballot, from uint64) api.Errno {
	if ballot <= m.ballot {
		return api.ErrOld
	}
	*m = model{many: m.many, ballot: ballot, doing: "asks", first: from}
	return api.OK
}

func (m *model) stop() { m.doing, m.open = "idle", nil }

func (m *model) promise(p promise) ([]acceptor.Vote, bool) {
	if m.doing != "asks" || p.ballot != m.ballot || p.node < 0 || p.node > m.many-1 || slices.Contains(m.promised, p.node) {
		return nil, false
	}
	m.promised = append(m.promised, p.node)
	m.told = append(m.told, p.votes...)
	m.first = max(m.first, p.low)
	if 2*len(m.promised) <= m.many {
		return nil, false
	}
	return m.lead()
}

func (m *model) lead() ([]acceptor.Vote, bool) {
	last, is := uint64(0), false
	for _, v := range m.told {
		last, is = max(last, v.Slot), true
	}
	m.doing, m.next = "leads", m.first
	if !is || last < m.first {
		return nil, true
	}
	if last == end || last-m.first+1 > mostSlots {
		m.stop()
		return nil, false
	}
	var list []acceptor.Vote
	for slot := m.first; slot <= last; slot++ {
		list = append(list, m.ask(slot, m.best(slot)))
	}
	m.next = last + 1
	return list, true
}

// best is the value of a slot's vote of the greatest ballot, the first one that was told.
func (m *model) best(slot uint64) string {
	text, ballot, is := "", uint64(0), false
	for _, v := range m.told {
		if v.Slot == slot && (!is || v.Ballot > ballot) {
			text, ballot, is = string(v.Value), v.Ballot, true
		}
	}
	return text
}

func (m *model) ask(slot uint64, text string) acceptor.Vote {
	v := vote(slot, m.ballot, text)
	m.open = append(m.open, asked{vote: v})
	return v
}

func (m *model) propose(text string) (acceptor.Vote, api.Errno) {
	if m.doing != "leads" {
		return acceptor.Vote{}, api.ErrState
	}
	if m.next == end {
		return acceptor.Vote{}, api.ErrWorn
	}
	m.next++
	return m.ask(m.next-1, text), api.OK
}

func (m *model) accepted(node int, ballot, slot uint64) (acceptor.Vote, bool) {
	if m.doing != "leads" || ballot != m.ballot || node < 0 || node > m.many-1 {
		return acceptor.Vote{}, false
	}
	i := slices.IndexFunc(m.open, func(a asked) bool { return a.vote.Slot == slot })
	if i < 0 || slices.Contains(m.open[i].by, node) {
		return acceptor.Vote{}, false
	}
	a := &m.open[i]
	a.by = append(a.by, node)
	if 2*len(a.by) <= m.many {
		return acceptor.Vote{}, false
	}
	v := a.vote
	m.open = slices.Delete(m.open, i, i+1)
	return v, true
}

// votesOpen are the open proposals, which stand by rising slots.
func (m *model) votesOpen() []acceptor.Vote {
	var l []acceptor.Vote
	for _, a := range m.open {
		l = append(l, a.vote)
	}
	return l
}

// chance is a leader, its model, and what calls look like chance.
type chance struct {
	*rand.Rand
	l    *leader.Leader
	m    *model
	base uint64
	seen map[string]int
}

// slot is one about the base, the first one or the next one; at the row's end it may go round.
func (c *chance) slot() uint64 {
	switch c.Intn(8) {
	case 0:
		return c.m.next + uint64(c.Intn(3)) - 1
	case 1:
		return c.m.first + uint64(c.Intn(3)) - 1
	}
	return c.base + uint64(c.Intn(12))
}

// node is mostly one that there is.
func (c *chance) node() int { return c.Intn(c.m.many+2) - c.Intn(2) }

// ballot is mostly the one that it has.
func (c *chance) ballot() uint64 {
	if c.Intn(6) > 0 {
		return c.m.ballot
	}
	return c.m.ballot + uint64(c.Intn(3)) - 1
}

// promise is a promise, with a few votes.
func (c *chance) promise() promise {
	p := promise{c.node(), c.ballot(), 0, nil}
	if c.Intn(3) == 0 {
		p.low = c.slot()
	}
	for range c.Intn(5) {
		p.votes = append(p.votes, vote(c.slot(), uint64(c.Intn(4)), []string{"", "a", "b", "c", "dd"}[c.Intn(5)]))
	}
	if c.Intn(200) == 0 {
		p.votes = append(p.votes, vote(end, 0, "far"), vote(c.base+5000, 1, "far"))
	}
	return p
}

// call makes a call that looks like chance, and wants of it what the document's words tell.
func (c *chance) call(t *testing.T) {
	t.Helper()
	switch c.Intn(20) {
	case 0:
		c.l.Stop()
		c.m.stop()
	case 1, 2:
		ballot, from := c.m.ballot+uint64(c.Intn(4)), c.slot()
		if c.m.doing == "leads" && c.Intn(4) > 0 {
			ballot = c.m.ballot // else it would hardly come to lead for long
		}
		isBegin(t, c.l, ballot, from, c.m.begin(ballot, from))
	case 3, 4, 5, 6, 7, 8, 9:
		c.callPromise(t)
	case 10, 11, 12:
		c.callPropose(t)
	default:
		c.callAccepted(t)
	}
	isAt(t, c.l, c.m.doing == "leads", c.m.ballot)
	isVotes(t, "Open", c.l.Open(), c.m.votesOpen())
}

func (c *chance) callPromise(t *testing.T) {
	t.Helper()
	p := c.promise()
	was := c.m.doing
	want, is := c.m.promise(p)
	if is {
		c.seen["leads"]++
		isPromise(t, c.l, p, want...)
		return
	}
	if was != c.m.doing {
		c.seen["too far"]++
	}
	isNoted(t, c.l, p)
}

func (c *chance) callPropose(t *testing.T) {
	t.Helper()
	text := strconv.Itoa(c.Intn(1000))
	want, e := c.m.propose(text)
	c.seen[e.Error()]++
	if e == api.OK {
		isPropose(t, c.l, text, want.Slot)
	} else {
		isNotProposed(t, c.l, e)
	}
}

func (c *chance) callAccepted(t *testing.T) {
	t.Helper()
	node, ballot, slot := c.node(), c.ballot(), c.slot()
	if len(c.m.open) > 0 && c.Intn(3) > 0 {
		slot = c.m.open[c.Intn(len(c.m.open))].vote.Slot
	}
	want, is := c.m.accepted(node, ballot, slot)
	if is {
		c.seen["chosen"]++
		isChosen(t, c.l, node, slot, string(want.Value))
	} else {
		isNotChosen(t, c.l, node, ballot, slot)
	}
}

// P15.1, P15.2, P15.3: calls that look like chance tell what the document's words tell.
func TestChance(t *testing.T) {
	seen := map[string]int{}
	for run := range 600 {
		many := []int{1, 2, 3, 4, 5, 7, 32}[run%7]
		c := &chance{rand.New(rand.NewSource(int64(run))), isNew(t, many), &model{many: many, doing: "idle"}, []uint64{0, 1 << 32, 1 << 63, end - 12, end - 3}[run%5], seen}
		for range 200 {
			c.call(t)
		}
		if t.Failed() {
			t.Fatalf("in run %d", run)
		}
	}
	for _, what := range []string{"leads", "too far", "chosen", api.OK.Error(), api.ErrState.Error(), api.ErrWorn.Error()} {
		if seen[what] < 50 {
			t.Errorf("%s came just %d times", what, seen[what])
		}
	}
}

// P15.2, P15.3: the same calls have the same answers, though slots stand in maps.
func TestSameAgain(t *testing.T) {
	first := ""
	for range 20 {
		l, _ := leader.New(3)
		l.Begin(9, 3)
		var in []acceptor.Vote
		for slot := range uint64(50) {
			in = append(in, vote(slot*7%90, slot%5, strconv.FormatUint(slot, 10)))
		}
		l.Promise(0, 9, 0, in[:25])
		list, is := l.Promise(1, 9, 0, in[25:])
		v, e := l.Propose(value("a"))
		got := fmt.Sprint(list, is, v, e, l.Open(), l.Leads(), l.Ballot())
		if first == "" {
			first = got
		}
		if got != first {
			t.Fatalf("got %.300s, it was %.300s", got, first)
		}
	}
}

// P15.4: no slot is proposed twice under one ballot, whatever is called.
func TestNoSlotTwiceUnderOneBallot(t *testing.T) {
	type key struct{ ballot, slot uint64 }
	for run := range 200 {
		r := rand.New(rand.NewSource(int64(run)))
		many := 1 + r.Intn(4)
		l := isNew(t, many)
		proposed := map[key]bool{}
		note := func(v acceptor.Vote) {
			t.Helper()
			k := key{v.Ballot, v.Slot}
			if proposed[k] {
				t.Fatalf("run %d: slot %d is proposed twice under ballot %d", run, v.Slot, v.Ballot)
			}
			proposed[k] = true
		}
		for range 300 {
			near := l.Ballot() + uint64(r.Intn(3)) - 1
			switch r.Intn(12) {
			case 0:
				l.Stop()
			case 1:
				l.Begin(near, uint64(r.Intn(6)))
			case 2, 3, 4, 5:
				list, _ := l.Promise(r.Intn(many), near, uint64(r.Intn(4)), votes(vote(uint64(r.Intn(9)), uint64(r.Intn(4)), "a")))
				for _, v := range list {
					note(v)
				}
			case 6, 7, 8:
				if v, e := l.Propose(nil); e == api.OK {
					note(v)
				}
			default:
				l.Accepted(r.Intn(many), near, uint64(r.Intn(12)))
			}
		}
	}
}

// P15.4: with each state of three acceptors in which a value may have been chosen, and each majority of promises, in each order, it is proposed again.
func TestWhatMayHaveBeenChosen(t *testing.T) {
	const ballots = 4 // 0: no vote
	for state := range ballots * ballots * ballots {
		under := []uint64{uint64(state % ballots), uint64(state / ballots % ballots), uint64(state / ballots / ballots)}
		for chosen := uint64(1); chosen < ballots; chosen++ {
			voted := 0
			for _, b := range under {
				if b == chosen {
					voted++
				}
			}
			if voted < 2 {
				continue
			}
			// Leaders ahead kept the promise, too: under each ballot behind it stands the value that was chosen.
			of := func(node int) []acceptor.Vote {
				b := under[node]
				if b == 0 {
					return nil
				}
				text := "chosen"
				if b < chosen {
					text = "other" + strconv.FormatUint(b, 10)
				}
				return votes(vote(4, b, text))
			}
			for _, order := range [][]int{{0, 1}, {1, 0}, {0, 2}, {2, 0}, {1, 2}, {2, 1}} {
				l := isNew(t, 3)
				isBegin(t, l, 9, 4, api.OK)
				isNoted(t, l, promise{order[0], 9, 0, of(order[0])})
				isPromise(t, l, promise{order[1], 9, 0, of(order[1])}, vote(4, 9, "chosen"))
			}
		}
	}
}

// letter is what an acceptor tells a leader: a promise, or, if cast is true, a vote for a slot.
type letter struct {
	to   int
	p    promise
	cast bool
	slot uint64
}

// cluster are acceptors, leaders that take turns, what is under way from those to these, and all votes that were ever cast.
type cluster struct {
	*rand.Rand
	acceptors []*acceptor.Acceptor
	leaders   []*leader.Leader
	first     []uint64 // of each leader its first slot
	letters   []letter
	asked     map[[2]uint64]string         // by ballot and slot
	cast      map[[2]uint64]map[int]string // likewise, and by acceptor
	chosen    map[uint64]acceptor.Vote     // by slot, each under the lowest ballot
	counts    map[string]int
}

// newCluster is one of so many acceptors, with three leaders.
func newCluster(t *testing.T, seed int64, many int, counts map[string]int) *cluster {
	t.Helper()
	c := &cluster{
		Rand:   rand.New(rand.NewSource(seed)),
		first:  make([]uint64, 3),
		asked:  map[[2]uint64]string{},
		cast:   map[[2]uint64]map[int]string{},
		chosen: map[uint64]acceptor.Vote{},
		counts: counts,
	}
	for range many {
		c.acceptors = append(c.acceptors, acceptor.New())
	}
	for range c.first {
		c.leaders = append(c.leaders, isNew(t, many))
	}
	return c
}

// propose notes a leader's proposal, and hands it to some acceptors.
func (c *cluster) propose(t *testing.T, i int, v acceptor.Vote) {
	t.Helper()
	key := [2]uint64{v.Ballot, v.Slot}
	if text, is := c.asked[key]; is && text != string(v.Value) {
		t.Fatalf("slot %d is proposed with %q and %q under ballot %d", v.Slot, text, v.Value, v.Ballot)
	}
	c.asked[key] = string(v.Value)
	for _, node := range c.Perm(len(c.acceptors)) {
		if c.Intn(3) == 0 || c.acceptors[node].Accept(v) != api.OK {
			continue
		}
		if c.cast[key] == nil {
			c.cast[key] = map[int]string{}
		}
		c.cast[key][node] = string(v.Value)
		if 2*len(c.cast[key]) > len(c.acceptors) {
			c.choose(t, v)
		}
		c.letters = append(c.letters, letter{i, promise{node: node, ballot: v.Ballot}, true, v.Slot})
	}
}

// choose notes that a majority voted: a slot has one value.
func (c *cluster) choose(t *testing.T, v acceptor.Vote) {
	t.Helper()
	was, is := c.chosen[v.Slot]
	if is && !bytes.Equal(was.Value, v.Value) {
		t.Fatalf("chosen are %s and %s", told(was), told(v))
	}
	if !is || v.Ballot < was.Ballot {
		c.chosen[v.Slot] = v
	}
	c.counts["chosen"]++
}

// stand lets a leader ask some acceptors.
func (c *cluster) stand(i int) {
	ballot := uint64(3*(c.Intn(3)+1)) + c.greatest()
	ballot += uint64(i) - ballot%3 // no two leaders have one
	from := uint64(c.Intn(4))
	if c.Intn(8) == 0 {
		ballot = c.leaders[i].Ballot() // once more, which is refused
	}
	if c.leaders[i].Begin(ballot, from) != api.OK {
		return
	}
	c.first[i] = from
	for node, a := range c.acceptors {
		if c.Intn(5) == 0 {
			continue
		}
		if told, e := a.Prepare(ballot, from); e == api.OK {
			c.letters = append(c.letters, letter{to: i, p: promise{node, ballot, a.Low(), told}})
		}
	}
}

// greatest is the greatest ballot that a leader has.
func (c *cluster) greatest() uint64 {
	b := uint64(0)
	for _, l := range c.leaders {
		b = max(b, l.Ballot())
	}
	return b
}

// deliver hands in any letter, which stays under way at times, and comes twice, or late; some are lost.
func (c *cluster) deliver(t *testing.T) {
	t.Helper()
	if len(c.letters) == 0 {
		return
	}
	k := max(c.Intn(len(c.letters)), c.Intn(len(c.letters)))
	x := c.letters[k]
	if c.Intn(3) > 0 {
		c.letters = slices.Delete(c.letters, k, k+1)
	}
	switch l := c.leaders[x.to]; {
	case c.Intn(10) == 0:
	case x.cast:
		c.hear(t, l, x)
	default:
		if x.p.ballot == l.Ballot() {
			c.first[x.to] = max(c.first[x.to], x.p.low)
		}
		if list, is := l.Promise(x.p.node, x.p.ballot, x.p.low, x.p.votes); is {
			c.come(t, x.to, list)
		}
	}
}

// hear hands an acceptor's vote in: what is told as chosen was.
func (c *cluster) hear(t *testing.T, l *leader.Leader, x letter) {
	t.Helper()
	got, is := l.Accepted(x.p.node, x.p.ballot, x.slot)
	if !is {
		return
	}
	if want, is := c.chosen[x.slot]; !is || got.Slot != x.slot || !bytes.Equal(got.Value, want.Value) {
		t.Fatalf("told as chosen is %s; it is %s, %v", told(got), told(want), is)
	}
	c.counts["told"]++
}

// come wants a leader that leads now to propose again, from its first slot on, all that was chosen under lower ballots; some of what it proposes is told.
func (c *cluster) come(t *testing.T, i int, list []acceptor.Vote) {
	t.Helper()
	c.counts["leads"]++
	first, ballot := c.first[i], c.leaders[i].Ballot()
	for j, v := range list {
		if v.Slot != first+uint64(j) || v.Ballot != ballot {
			t.Fatalf("proposal %d is %s, the first slot is %d, the ballot %d", j, told(v), first, ballot)
		}
	}
	for slot, v := range c.chosen {
		if slot < first || v.Ballot > ballot {
			continue
		}
		if slot-first >= uint64(len(list)) || !bytes.Equal(list[slot-first].Value, v.Value) {
			t.Fatalf("chosen is %s, but it isn't proposed again: %v", told(v), list)
		}
		c.counts["again"]++
	}
	for _, v := range list {
		if c.Intn(4) > 0 {
			c.propose(t, i, v)
		}
	}
}

// forget lets an acceptor give up slots that were chosen on end.
func (c *cluster) forget() {
	low := uint64(0)
	for c.Intn(4) > 0 {
		if _, is := c.chosen[low]; !is {
			break
		}
		low++
	}
	c.acceptors[c.Intn(len(c.acceptors))].Forget(low)
}

// step does one thing that looks like chance.
func (c *cluster) step(t *testing.T) {
	t.Helper()
	i := c.Intn(3)
	l := c.leaders[i]
	switch c.Intn(20) {
	case 0:
		c.stand(i)
	case 1:
		if c.Intn(4) == 0 {
			l.Stop()
		}
	case 2:
		c.forget()
	case 3:
		for _, v := range l.Open() { // it is asked for once more
			c.propose(t, i, v)
		}
	case 4, 5, 6:
		if v, e := l.Propose([]byte(strconv.Itoa(c.Int()))); e == api.OK {
			if _, is := c.asked[[2]uint64{v.Ballot, v.Slot}]; is {
				t.Fatalf("slot %d is proposed twice under ballot %d", v.Slot, v.Ballot)
			}
			c.propose(t, i, v)
		}
	default:
		c.deliver(t)
	}
}

// P15.4: with acceptors, leaders that take turns, and messages that are lost, late, or come twice, a slot has one value, and it is proposed again.
func TestWhatWasChosenIsProposedAgain(t *testing.T) {
	counts := map[string]int{}
	for run := range 300 {
		c := newCluster(t, int64(run), 1+run%7, counts)
		for range 500 {
			c.step(t)
		}
		if t.Failed() {
			t.Fatalf("in run %d", run)
		}
	}
	for _, what := range []string{"leads", "chosen", "told", "again"} {
		if counts[what] < 500 {
			t.Errorf("%s came just %d times", what, counts[what])
		}
	}
}
