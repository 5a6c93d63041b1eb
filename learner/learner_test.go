package learner_test

import (
	"bytes"
	"fmt"
	"math"
	"math/rand"
	"slices"
	"strconv"
	"testing"

	"notcher/api"
	"notcher/learner"
)

const end = uint64(math.MaxUint64) // the slot that never is known

// behind is what stands in the room behind a value that is handed in.
const behind = "behind"

// value are a text's bytes, with some room behind them.
func value(text string) []byte {
	room := []byte(text + behind)
	return room[:len(text)]
}

// spoil changes bytes, and the room behind them.
func spoil(b []byte) {
	b = b[:cap(b)]
	for i := range b {
		b[i] ^= 255
	}
}

// slots are a list of slots.
func slots(l ...uint64) []uint64 { return l }

// isErr wants this error.
func isErr(t *testing.T, what string, got, want api.Errno) {
	t.Helper()
	if got != want {
		t.Errorf("%s: got error %d, want %d", what, got, want)
	}
}

// isLearn wants of Learn this error; what was handed in, and what stands behind it, is as it was.
func isLearn(t *testing.T, l *learner.Learner, slot uint64, text string, want api.Errno) {
	t.Helper()
	v := value(text)
	isErr(t, fmt.Sprintf("Learn(%d, %.40q)", slot, text), l.Learn(slot, v), want)
	if got := string(v[:len(text)+len(behind)]); got != text+behind {
		t.Errorf("Learn(%d, %.40q) changed it to %.60q", slot, text, got)
	}
}

// isKnown wants of Get this value.
func isKnown(t *testing.T, l *learner.Learner, slot uint64, want string) {
	t.Helper()
	if got, is := l.Get(slot); !is || string(got) != want {
		t.Errorf("Get(%d): got %.40q, %v, want %.40q", slot, got, is, want)
	}
}

// isNotKnown wants of Get nothing.
func isNotKnown(t *testing.T, l *learner.Learner, slot uint64) {
	t.Helper()
	if got, is := l.Get(slot); is || got != nil {
		t.Errorf("Get(%d): got %.40q, %v, want nothing, false", slot, got, is)
	}
}

// isAt wants this Next and this Top.
func isAt(t *testing.T, l *learner.Learner, next, top uint64) {
	t.Helper()
	if l.Next() != next || l.Top() != top {
		t.Errorf("got Next %d, Top %d, want %d, %d", l.Next(), l.Top(), next, top)
	}
}

// isGaps wants of Gaps these slots.
func isGaps(t *testing.T, l *learner.Learner, most int, want ...uint64) {
	t.Helper()
	if got := l.Gaps(most); !slices.Equal(got, want) {
		t.Errorf("Gaps(%d): got %.200v, want %.200v", most, got, want)
	}
}

// isFrom wants of From these values.
func isFrom(t *testing.T, l *learner.Learner, slot uint64, most int, want ...string) {
	t.Helper()
	if got := l.From(slot, most); !slices.Equal(texts(got), want) {
		t.Errorf("From(%d, %d): got %.200q, want %.200q", slot, most, got, want)
	}
}

// texts are lists of bytes as texts.
func texts(l [][]byte) []string {
	var s []string
	for _, v := range l {
		s = append(s, string(v))
	}
	return s
}

// pair is a value that was chosen for a slot.
type pair struct {
	slot uint64
	text string
}

// model is a learner in the document's words: what was learned, in no order.
type model struct{ known []pair }

func (m *model) get(slot uint64) (string, bool) {
	for _, p := range m.known {
		if p.slot == slot {
			return p.text, true
		}
	}
	return "", false
}

func (m *model) learn(slot uint64, text string) api.Errno {
	was, is := m.get(slot)
	switch {
	case slot == end:
		return api.ErrWorn
	case is && was == text:
		return api.ErrTwice
	case is:
		return api.ErrState
	}
	m.known = append(m.known, pair{slot, text})
	return api.OK
}

func (m *model) next() uint64 {
	slot := uint64(0)
	for {
		if _, is := m.get(slot); !is {
			return slot
		}
		slot++
	}
}

func (m *model) top() uint64 {
	top := uint64(0)
	for _, p := range m.known {
		if p.slot >= top {
			top = p.slot + 1
		}
	}
	return top
}

func (m *model) gaps(most int) []uint64 {
	var l []uint64
	top := m.top()
	for slot := uint64(0); slot < top && len(l) < most; slot++ {
		if _, is := m.get(slot); !is {
			l = append(l, slot)
		}
	}
	return l
}

func (m *model) from(slot uint64, most int) []string {
	var l []string
	for len(l) < most {
		text, is := m.get(slot)
		if !is {
			break
		}
		l = append(l, text)
		slot++
	}
	return l
}

// mosts are numbers of slots that may be asked for: below 1, about n, and so many that no memory would hold them.
func mosts(n int) []int {
	return []int{math.MinInt, -2, -1, 0, 1, 2, 3, n - 1, n, n + 1, 2*n + 7, 1 << 40, math.MaxInt}
}

// isAsWorded wants of all calls that tell what the document's words tell, and that they change nothing.
func isAsWorded(t *testing.T, l *learner.Learner, m *model) {
	t.Helper()
	for range 2 {
		isAt(t, l, m.next(), m.top())
		about := slots(0, 1, m.next(), m.top(), end-1, end)
		for _, p := range m.known {
			about = append(about, p.slot-1, p.slot, p.slot+1)
		}
		for _, slot := range about {
			if text, is := m.get(slot); is {
				isKnown(t, l, slot, text)
			} else {
				isNotKnown(t, l, slot)
			}
			for _, most := range mosts(len(m.from(slot, math.MaxInt))) {
				isFrom(t, l, slot, most, m.from(slot, most)...)
			}
		}
		for _, most := range mostGaps(m) {
			isGaps(t, l, most, m.gaps(most)...)
		}
	}
}

// mostGaps are numbers of gaps that may be asked for: where there are too many to be told, a few.
func mostGaps(m *model) []int {
	if m.top() > 1000 {
		return []int{math.MinInt, -1, 0, 1, 2, 3, 50}
	}
	return mosts(len(m.gaps(math.MaxInt)))
}

// isWhole wants just these values.
func isWhole(t *testing.T, l *learner.Learner, known ...pair) {
	t.Helper()
	isAsWorded(t, l, &model{known})
}

// learned is a Learner that knows these slots, each one's value being its number as a text.
func learned(t *testing.T, l ...uint64) *learner.Learner {
	t.Helper()
	r := learner.New()
	for _, slot := range l {
		isLearn(t, r, slot, text(slot), api.OK)
	}
	return r
}

// text is the value of slots that learned lets be known.
func text(slot uint64) string { return strconv.FormatUint(slot, 10) }

// pairs are what a Learner of learned knows.
func pairs(l ...uint64) []pair {
	var p []pair
	for _, slot := range l {
		p = append(p, pair{slot, text(slot)})
	}
	return p
}

// run are slots from one on up to ahead of another one.
func run(first, behind uint64) []uint64 {
	var l []uint64
	for slot := first; slot < behind; slot++ {
		l = append(l, slot)
	}
	return l
}

// The chapter's example.
func TestExample(t *testing.T) {
	l := learned(t, 0, 1, 4)
	isAt(t, l, 2, 5)
	isGaps(t, l, 9, 2, 3)
	isWhole(t, l, pairs(0, 1, 4)...)
}

// P14.1, P14.2: one that is new knows nothing.
func TestNew(t *testing.T) {
	l := learner.New()
	if l == nil {
		t.Fatal("got nil")
	}
	isAt(t, l, 0, 0)
	isNotKnown(t, l, 0)
	isGaps(t, l, math.MaxInt)
	isFrom(t, l, 0, math.MaxInt)
	isWhole(t, l)
}

// P14.1: two of them are two.
func TestTwoLearners(t *testing.T) {
	a, b := learner.New(), learner.New()
	isLearn(t, a, 3, "a", api.OK)
	isWhole(t, b)
	isLearn(t, b, 3, "b", api.OK)
	isLearn(t, b, 0, "c", api.OK)
	isWhole(t, a, pair{3, "a"})
	isWhole(t, b, pair{3, "b"}, pair{0, "c"})
}

// P14.1: one that New didn't make doesn't panic, and is of use.
func TestZeroLearner(t *testing.T) {
	var l learner.Learner
	isWhole(t, &l)
	isLearn(t, &l, end, "a", api.ErrWorn)
	isWhole(t, &l)
	isLearn(t, &l, 2, "a", api.OK)
	isLearn(t, &l, 2, "a", api.ErrTwice)
	isLearn(t, &l, 2, "b", api.ErrState)
	isWhole(t, &l, pair{2, "a"})
}

// P14.1, P14.2: each call of nil; Learn tells it ahead of a slot that can't be known.
func TestNil(t *testing.T) {
	var l *learner.Learner
	for _, slot := range slots(0, 1, 2, 1<<32, 1<<63, end-1, end) {
		for range 2 {
			isLearn(t, l, slot, "a", api.ErrArg)
			isLearn(t, l, slot, "", api.ErrArg)
			isErr(t, "Learn of nil", l.Learn(slot, nil), api.ErrArg)
		}
		isNotKnown(t, l, slot)
		for _, most := range mosts(5) {
			if got := l.From(slot, most); got != nil {
				t.Errorf("From(%d, %d): got %v, want nothing", slot, most, got)
			}
			if got := l.Gaps(most); got != nil {
				t.Errorf("Gaps(%d): got %v, want nothing", most, got)
			}
		}
		isAt(t, l, 0, 0)
	}
}

// P14.1, P14.2: each slot but the last one may be known, and is known alone.
func TestLearnSlots(t *testing.T) {
	for _, slot := range slots(0, 1, 2, 63, 255, 256, 1<<31, 1<<32-1, 1<<32, 1<<63-1, 1<<63, 1<<63+1, end-2, end-1) {
		for _, v := range []string{"", "a", "\x00", "some bytes"} {
			l := learner.New()
			isLearn(t, l, slot, v, api.OK)
			isWhole(t, l, pair{slot, v})
			isLearn(t, l, slot, v, api.ErrTwice)
			isLearn(t, l, slot, v+"b", api.ErrState)
			isWhole(t, l, pair{slot, v})
		}
	}
	isAt(t, learned(t, end-1), 0, end)
	isAt(t, learned(t, 0, end-1), 1, end)
}

// P14.1: the last slot is never known, whatever is known else, and nothing changes.
func TestLearnWorn(t *testing.T) {
	for _, known := range [][]uint64{nil, {0}, {3}, {0, 1, 4}, {end - 1}, {0, end - 1}, {end - 3, end - 2, end - 1}} {
		l := learned(t, known...)
		for range 2 {
			isLearn(t, l, end, "a", api.ErrWorn)
			isLearn(t, l, end, "", api.ErrWorn)
			isErr(t, "Learn of nil", l.Learn(end, nil), api.ErrWorn)
			isLearn(t, l, end, text(0), api.ErrWorn)
		}
		isNotKnown(t, l, end)
		isWhole(t, l, pairs(known...)...)
	}
}

// P14.1: what is told again is told so, if it is the same, and else it is wrong; nothing changes.
func TestLearnAgain(t *testing.T) {
	values := []string{"", "a", "b", "\x00", "\x00\x00", "ab", "ba", "aa", "aba", "abab", "ab\x00", "\xff", "A", string(make([]byte, 5000))}
	for _, slot := range slots(0, 1, 4, end-1) {
		for _, first := range values {
			l := learner.New()
			isLearn(t, l, 2, "other", api.OK)
			isLearn(t, l, slot, first, api.OK)
			for _, v := range values {
				want := api.ErrState
				if v == first {
					want = api.ErrTwice
				}
				isLearn(t, l, slot, v, want)
				isKnown(t, l, slot, first)
				isLearn(t, l, slot, first, api.ErrTwice)
			}
			isLearn(t, l, slot, "other", api.ErrState) // another slot's value
			isLearn(t, l, 2, first, api.ErrState)
			isLearn(t, l, 2, "other", api.ErrTwice)
			isWhole(t, l, pair{2, "other"}, pair{slot, first})
		}
	}
}

// P14.1: nil and empty values are one, and are values.
func TestLearnEmpty(t *testing.T) {
	for _, first := range [][]byte{nil, {}, value("")} {
		l := learner.New()
		isErr(t, "Learn", l.Learn(1, first), api.OK)
		isWhole(t, l, pair{1, ""})
		for _, v := range [][]byte{nil, {}, value("")} {
			isErr(t, "Learn of empty again", l.Learn(1, v), api.ErrTwice)
		}
		isLearn(t, l, 1, "a", api.ErrState)
		isLearn(t, l, 1, "\x00", api.ErrState)
		isWhole(t, l, pair{1, ""})
		isErr(t, "Learn", l.Learn(0, []byte{0}), api.OK)
		isErr(t, "Learn of nil for a byte", l.Learn(0, nil), api.ErrState)
		isErr(t, "Learn of empty for a byte", l.Learn(0, []byte{}), api.ErrState)
		isErr(t, "Learn of a byte again", l.Learn(0, []byte{0}), api.ErrTwice)
		isWhole(t, l, pair{1, ""}, pair{0, "\x00"})
	}
}

// P14.1: values of any length are known; of long ones each byte tells.
func TestLearnLongValues(t *testing.T) {
	for _, n := range []int{1, 8, 255, 256, 4000, 4001, 32768, 32769, 65536, 100000} {
		b := bytes.Repeat([]byte{0, 1, 255}, n/3+1)[:n]
		l := learner.New()
		isErr(t, "Learn", l.Learn(0, b), api.OK)
		isKnown(t, l, 0, string(b))
		isFrom(t, l, 0, 1, string(b))
		for _, i := range []int{0, n / 2, n - 1} {
			other := bytes.Clone(b)
			other[i] ^= 128
			isErr(t, "Learn of a changed one", l.Learn(0, other), api.ErrState)
		}
		isErr(t, "Learn of a shorter one", l.Learn(0, b[:n-1]), api.ErrState)
		isErr(t, "Learn of a longer one", l.Learn(0, append(bytes.Clone(b), 0)), api.ErrState)
		isErr(t, "Learn", l.Learn(0, bytes.Clone(b)), api.ErrTwice)
		isKnown(t, l, 0, string(b))
	}
}

// P14.1: slots that have one value stay two.
func TestLearnOneValueForTwoSlots(t *testing.T) {
	l := learner.New()
	v := value("same")
	for _, slot := range slots(5, 0, 1, end-1) {
		isErr(t, "Learn", l.Learn(slot, v), api.OK)
	}
	isWhole(t, l, pair{5, "same"}, pair{0, "same"}, pair{1, "same"}, pair{end - 1, "same"})
}

// P14.2: Next and Top before anything is known, with slot 0 alone, with slot 0 missing, with all slots up to one.
func TestNextAndTop(t *testing.T) {
	for _, c := range []struct {
		known     []uint64
		next, top uint64
	}{
		{nil, 0, 0},
		{slots(0), 1, 1},
		{slots(1), 0, 2},
		{slots(0, 1), 2, 2},
		{slots(1, 0), 2, 2},
		{slots(0, 2), 1, 3},
		{slots(1, 2, 3), 0, 4},
		{slots(3, 2, 1), 0, 4},
		{slots(3, 2, 1, 0), 4, 4},
		{slots(0, 3, 1, 2), 4, 4},
		{slots(0, 3, 1), 2, 4},
		{slots(0, 1, 3, 4, 6), 2, 7},
		{slots(0, 1, 3, 4, 6, 2), 5, 7},
		{slots(0, 1, 3, 4, 6, 2, 5), 7, 7},
		{slots(0, 1<<32), 1, 1<<32 + 1},
		{slots(1<<63, 1<<63-1), 0, 1<<63 + 1},
		{slots(end-1, 0), 1, end},
		{slots(end-1, 7, 0, 1), 2, end},
	} {
		isAt(t, learned(t, c.known...), c.next, c.top)
		isWhole(t, learned(t, c.known...), pairs(c.known...)...)
	}
}

// P14.2: in rising, falling and mixed order, some slots twice, call by call.
func TestInTurn(t *testing.T) {
	mixed := rand.New(rand.NewSource(14))
	for n := range uint64(12) {
		rising := run(0, n)
		falling := slices.Clone(rising)
		slices.Reverse(falling)
		for _, order := range [][]uint64{rising, falling, odds(n), shuffled(mixed, rising), shuffled(mixed, rising)} {
			l := learner.New()
			for i, slot := range order {
				isLearn(t, l, slot, text(slot), api.OK)
				isWhole(t, l, pairs(order[:i+1]...)...)
				isLearn(t, l, order[i/2], text(order[i/2]), api.ErrTwice)
				isLearn(t, l, order[i/2], "x", api.ErrState)
				isWhole(t, l, pairs(order[:i+1]...)...)
			}
			isAt(t, l, n, n)
			isGaps(t, l, math.MaxInt)
		}
	}
}

// odds are the odd slots below n, and then the even ones.
func odds(n uint64) []uint64 {
	var odd, even []uint64
	for slot := range n {
		if slot%2 == 1 {
			odd = append(odd, slot)
		} else {
			even = append(even, slot)
		}
	}
	return append(odd, even...)
}

// shuffled is the list in an order that looks like chance.
func shuffled(c *rand.Rand, l []uint64) []uint64 {
	l = slices.Clone(l)
	c.Shuffle(len(l), func(i, j int) { l[i], l[j] = l[j], l[i] })
	return l
}

// P14.2: all sets of slots below eight.
func TestAllSets(t *testing.T) {
	for set := range 256 {
		var known []uint64
		for slot := range uint64(8) {
			if set>>slot&1 == 1 {
				known = append(known, slot)
			}
		}
		isWhole(t, learned(t, known...), pairs(known...)...)
		slices.Reverse(known)
		isWhole(t, learned(t, known...), pairs(known...)...)
		if t.Failed() {
			t.Fatalf("with %v", known)
		}
	}
}

// P14.2: Gaps of most below 1, 1, as many as there are, one more, and of a great most with few gaps.
func TestGaps(t *testing.T) {
	l := learned(t, 1, 2, 5, 9, 0, 8)
	for _, most := range []int{math.MinInt, -9, -1, 0} {
		if got := l.Gaps(most); got != nil {
			t.Errorf("Gaps(%d): got %v, want nothing", most, got)
		}
	}
	isGaps(t, l, 1, 3)
	isGaps(t, l, 2, 3, 4)
	isGaps(t, l, 3, 3, 4, 6)
	isGaps(t, l, 4, 3, 4, 6, 7)
	isGaps(t, l, 5, 3, 4, 6, 7)
	isGaps(t, l, 1<<40, 3, 4, 6, 7)
	isGaps(t, l, math.MaxInt, 3, 4, 6, 7)
	isLearn(t, l, 3, "a", api.OK)
	isGaps(t, l, 4, 4, 6, 7)
	isGaps(t, l, 1, 4)
	isLearn(t, l, 6, "a", api.OK)
	isGaps(t, l, 4, 4, 7)
	isLearn(t, l, 10, "a", api.OK)
	isGaps(t, l, 4, 4, 7)
	isLearn(t, l, 12, "a", api.OK)
	isGaps(t, l, 4, 4, 7, 11)
	isLearn(t, l, 4, "a", api.OK)
	isLearn(t, l, 11, "a", api.OK)
	isLearn(t, l, 7, "a", api.OK)
	isGaps(t, l, 4)
	isGaps(t, learned(t, 3), 9, 0, 1, 2) // slot 0 is one, too
	isGaps(t, learned(t, 0), 9)
}

// P14.2: where slots are known far behind, the lowest gaps are told, and it ends.
func TestGapsFarBehind(t *testing.T) {
	for _, far := range slots(1<<20, 1<<32, 1<<40, 1<<63, end-2, end-1) {
		l := learned(t, far)
		isGaps(t, l, 0)
		isGaps(t, l, -1)
		isGaps(t, l, 1, 0)
		isGaps(t, l, 5, 0, 1, 2, 3, 4)
		isGaps(t, l, 2000, run(0, 2000)...)
		isLearn(t, l, 0, "a", api.OK)
		isLearn(t, l, 2, "a", api.OK)
		isGaps(t, l, 1, 1)
		isGaps(t, l, 3, 1, 3, 4)
		isLearn(t, l, 1, "a", api.OK)
		isGaps(t, l, 1, 3)
		isGaps(t, l, 2, 3, 4)
		isAt(t, l, 3, far+1)
	}
}

// P14.2: many slots on end, with gaps in front, between and behind.
func TestMany(t *testing.T) {
	const n = 30000
	known := run(0, n)
	mixed := shuffled(rand.New(rand.NewSource(3)), known)
	for _, missing := range [][]uint64{nil, slots(0), slots(n - 1), slots(0, n-1), slots(7), slots(1, 2, 3), slots(100, 5000, 5001, n-2)} {
		l := learner.New()
		var values []string
		for _, slot := range mixed {
			if !slices.Contains(missing, slot) {
				isLearn(t, l, slot, text(slot), api.OK)
			}
		}
		next, top := uint64(n), uint64(n)
		for slot := uint64(n - 1); slices.Contains(missing, slot); slot-- {
			top = slot
		}
		below := slices.DeleteFunc(slices.Clone(missing), func(slot uint64) bool { return slot >= top })
		if len(below) > 0 {
			next = below[0]
		} else {
			next = top
		}
		isAt(t, l, next, top)
		isGaps(t, l, math.MaxInt, below...)
		for slot := range next {
			values = append(values, text(slot))
		}
		isFrom(t, l, 0, math.MaxInt, values...)
		isFrom(t, l, next/2, 3, values[next/2:min(next/2+3, next)]...)
		for _, slot := range missing {
			isNotKnown(t, l, slot)
			isFrom(t, l, slot, 5)
			isLearn(t, l, slot, text(slot), api.OK)
		}
		isAt(t, l, n, n)
		isGaps(t, l, math.MaxInt)
	}
}

// P14.2: From of a slot that is known, one that isn't, one behind Top; of most below 1, 1, as many as are known on end, one more.
func TestFrom(t *testing.T) {
	l := learner.New()
	for i, v := range []string{"a", "", "c", "", "e", "f"} {
		isLearn(t, l, slots(0, 1, 2, 4, 5, 7)[i], v, api.OK)
	}
	for slot := range uint64(10) {
		for _, most := range []int{math.MinInt, -3, -1, 0} {
			if got := l.From(slot, most); got != nil {
				t.Errorf("From(%d, %d): got %v, want nothing", slot, most, got)
			}
		}
	}
	isFrom(t, l, 0, 1, "a")
	isFrom(t, l, 0, 2, "a", "")
	isFrom(t, l, 0, 3, "a", "", "c")
	isFrom(t, l, 0, 4, "a", "", "c")
	isFrom(t, l, 0, math.MaxInt, "a", "", "c")
	isFrom(t, l, 1, 1, "")
	isFrom(t, l, 1, 9, "", "c")
	isFrom(t, l, 2, 9, "c")
	isFrom(t, l, 3, 9)
	isFrom(t, l, 4, 9, "", "e")
	isFrom(t, l, 4, 1, "")
	isFrom(t, l, 5, 9, "e")
	isFrom(t, l, 6, 9)
	isFrom(t, l, 7, 9, "f")
	isFrom(t, l, 7, 1, "f")
	isFrom(t, l, 8, 9) // Top
	isFrom(t, l, 9, 9)
	isFrom(t, l, end, 9)
	isLearn(t, l, 3, "d", api.OK)
	isFrom(t, l, 0, 9, "a", "", "c", "d", "", "e")
	isFrom(t, l, 0, 5, "a", "", "c", "d", "")
	isFrom(t, l, 3, 2, "d", "")
}

// P14.2: slots end at 2^64 - 1, and what is known from slot 0 on doesn't follow.
func TestFromToTheEnd(t *testing.T) {
	l := learned(t, 0, 1, 2, end-1, end-2, end-4)
	for _, most := range []int{3, 4, 100, 1 << 40, math.MaxInt} {
		isFrom(t, l, end-4, most, text(end-4))
		isFrom(t, l, end-3, most)
		isFrom(t, l, end-2, most, text(end-2), text(end-1))
		isFrom(t, l, end-1, most, text(end-1))
		isFrom(t, l, end, most)
		isFrom(t, l, 0, most, "0", "1", "2")
	}
	isFrom(t, l, end-2, 2, text(end-2), text(end-1))
	isFrom(t, l, end-2, 1, text(end-2))
	isFrom(t, l, end-1, 1, text(end-1))
	isFrom(t, l, end, 1)
	isLearn(t, l, end-3, text(end-3), api.OK)
	isFrom(t, l, end-4, 9, text(end-4), text(end-3), text(end-2), text(end-1))
	isWhole(t, l, pairs(0, 1, 2, end-4, end-3, end-2, end-1)...)
}

// P14.1, P14.2, P14.3: calls that look like chance tell what the document's words tell; what is known stays.
func TestChance(t *testing.T) {
	c := rand.New(rand.NewSource(41))
	seen := map[api.Errno]int{}
	for run := range 300 {
		l, m := learner.New(), &model{}
		base := []uint64{0, 0, 1 << 32, 1 << 63, end - 30}[run%5]
		width := 1 + c.Intn(40)
		for range 60 {
			slot := base + uint64(c.Intn(width))
			switch c.Intn(8) {
			case 0:
				slot = m.next()
			case 1:
				slot = m.top()
			case 2:
				slot = uint64(c.Intn(10))
			case 3:
				slot = end - uint64(c.Intn(3))
			}
			v := text(slot % 3)
			if c.Intn(4) == 0 {
				v = []string{"", "0", "1", "x"}[c.Intn(4)]
			}
			err := m.learn(slot, v)
			isLearn(t, l, slot, v, err)
			seen[err]++
			for _, p := range m.known {
				isKnown(t, l, p.slot, p.text)
			}
			isAt(t, l, m.next(), m.top())
			most := c.Intn(20) - 1
			isGaps(t, l, most, m.gaps(most)...)
			slot, most = base+uint64(c.Intn(width)), c.Intn(12)-1
			isFrom(t, l, slot, most, m.from(slot, most)...)
		}
		isAsWorded(t, l, m)
		if t.Failed() {
			t.Fatalf("in run %d", run)
		}
	}
	for _, e := range []api.Errno{api.OK, api.ErrTwice, api.ErrState, api.ErrWorn} {
		if seen[e] < 100 {
			t.Errorf("error %d came just %d times", e, seen[e])
		}
	}
}

// P14.3: what is known, and what is a gap, are all slots below Top, each one just one of both; Next is the first gap, or Top; neither Next nor Top sinks.
func TestWhatFollows(t *testing.T) {
	c := rand.New(rand.NewSource(143))
	for range 100 {
		l := learner.New()
		next, top := uint64(0), uint64(0)
		for range 40 {
			l.Learn(uint64(c.Intn(50)), value(text(uint64(c.Intn(2)))))
			gaps := l.Gaps(math.MaxInt)
			if l.Next() < next || l.Top() < top {
				t.Fatalf("Next went from %d to %d, Top from %d to %d", next, l.Next(), top, l.Top())
			}
			next, top = l.Next(), l.Top()
			want := top
			if len(gaps) > 0 {
				want = gaps[0]
			}
			if next != want {
				t.Fatalf("got Next %d, want %d, for Gaps are %v, Top is %d", next, want, gaps, top)
			}
			for slot := range uint64(60) {
				_, is := l.Get(slot)
				if gap := slices.Contains(gaps, slot); (is || gap) != (slot < top) || is && gap {
					t.Fatalf("slot %d: known %v, a gap %v, Top is %d", slot, is, gap, top)
				}
			}
		}
	}
}

// P14.2: the same calls have the same answers, though slots stand in a map.
func TestSameAgain(t *testing.T) {
	first := ""
	for range 20 {
		l := learner.New()
		for slot := range uint64(50) {
			l.Learn(slot*7%90, value(text(slot)))
		}
		got := fmt.Sprint(l.Next(), l.Top(), l.Gaps(30), l.From(0, 30), l.From(49, 30))
		if first == "" {
			first = got
		}
		if got != first {
			t.Fatalf("got %s, it was %s", got, first)
		}
	}
}

// P14.1: a value that was handed in isn't kept, be it new, told twice, or wrong.
func TestLearnKeepsNoValue(t *testing.T) {
	in := []byte("abcdef")
	l := learner.New()
	isErr(t, "Learn", l.Learn(0, in[:3]), api.OK)
	isErr(t, "Learn", l.Learn(1, in[:3]), api.OK)
	isErr(t, "Learn", l.Learn(2, in[1:4]), api.OK)
	isErr(t, "Learn", l.Learn(3, in[:0]), api.OK)
	isErr(t, "Learn", l.Learn(5, in), api.OK)
	again, wrong := value("abc"), value("xyz")
	isErr(t, "Learn again", l.Learn(0, again), api.ErrTwice)
	isErr(t, "Learn of a wrong one", l.Learn(0, wrong), api.ErrState)
	told, _ := l.Get(0)
	from := l.From(0, 3)
	spoil(in)
	spoil(again)
	spoil(wrong)
	if string(told) != "abc" || !slices.Equal(texts(from), []string{"abc", "abc", "bcd"}) {
		t.Errorf("what was told ahead is %q, %q", told, from)
	}
	isLearn(t, l, 0, "abc", api.ErrTwice)
	isErr(t, "Learn of what was changed", l.Learn(0, in[:3]), api.ErrState)
	isWhole(t, l, pair{0, "abc"}, pair{1, "abc"}, pair{2, "bcd"}, pair{3, ""}, pair{5, "abcdef"})
}

// P14.1, P14.2: what Get, From and Gaps tell is in new memory: whatever is done with it, neither the Learner nor another answer changes.
func TestAnswersAreInNewMemory(t *testing.T) {
	for n := range 20 { // of many lengths: room that is left over would show
		v := string(bytes.Repeat([]byte("v"), n))
		known := []pair{{0, v}, {1, v + "b"}, {2, ""}, {5, v + "c"}, {9, v}}
		l := learner.New()
		for _, p := range known {
			isLearn(t, l, p.slot, p.text, api.OK)
		}
		got, _ := l.Get(1)
		from, gaps := l.From(0, 9), l.Gaps(9)
		wanted := []string{v, v + "b", ""}

		other, _ := l.Get(1)
		spoil(other)
		_ = append(other, "grown"...)
		spoilAll(l.From(0, 9))
		spoilAll(l.From(1, 1))
		spoilGaps(l.Gaps(9))
		spoilGaps(l.Gaps(2))
		isTold(t, "behind a spoiled answer", got, from, gaps, v+"b", wanted)
		isWhole(t, l, known...)

		_ = append(from[0], "grown over all that is behind"...)
		spoil(from[0])
		if !slices.Equal(texts(from[1:]), wanted[1:]) {
			t.Errorf("the other values of the answer are %q", from[1:])
		}
		from[0] = value(v)
		isLearn(t, l, 3, "new", api.OK)
		isLearn(t, l, 12, "new", api.OK)
		isTold(t, "behind other calls", got, from, gaps, v+"b", wanted)
		isWhole(t, l, append(known, pair{3, "new"}, pair{12, "new"})...)
	}
}

// isTold wants of answers that were told ahead that they are as they were.
func isTold(t *testing.T, what string, got []byte, from [][]byte, gaps []uint64, wantGot string, wantFrom []string) {
	t.Helper()
	if string(got) != wantGot || !slices.Equal(texts(from), wantFrom) || !slices.Equal(gaps, slots(3, 4, 6, 7, 8)) {
		t.Errorf("%s: Get is %q, From %q, Gaps %v", what, got, from, gaps)
	}
}

// spoilAll changes a list, all its values, and what room there is behind them.
func spoilAll(l [][]byte) {
	for i := range l {
		spoil(l[i])
		l[i] = value("spoiled")
	}
	_ = append(l, value("spoiled"))
}

// spoilGaps changes a list of slots, and what room there is behind it.
func spoilGaps(l []uint64) {
	l = l[:cap(l)]
	for i := range l {
		l[i] = 77
	}
}
