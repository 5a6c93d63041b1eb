package elect_test

import (
	"fmt"
	"math"
	"math/rand"
	"slices"
	"testing"

	"notcher/api"
	"notcher/elect"
)

const (
	nodes        = 32
	mostPatience = 1000
	end          = uint64(18446744073709551615) // the greatest ballot there is
)

// patiences are numbers that may be, with both ends.
var patiences = []int{1, 2, 3, 5, 7, 10, 31, 32, 33, 100, 999, 1000}

// strangers are numbers that are neither a node nor a patience.
var strangers = []int{
	-1, -2, -3, -31, -32, -33, -64, -999, -1000, -1001, 1001, 1002, 1024, 2000, 32000, 32001, 65536, 1000000,
	-1 << 31, -1<<31 + 5, 1<<31 - 1, 1 << 31, 1<<32 - 1, 1 << 32, 1<<32 + 1, 1<<32 + 5, -1 << 32, -1<<32 + 5,
	1 << 58, 1 << 59, 1<<59 + 1, 1 << 61, 1 << 62, 1<<62 + 1, 1<<63 - 1000,
	math.MinInt, math.MinInt + 1, math.MinInt + 31, math.MinInt + 1000, math.MaxInt - 31, math.MaxInt - 1, math.MaxInt,
}

// turnInWords is a node's turn as the document words it: its patience, for each node up to itself once.
func turnInWords(node, patience int) int {
	turn := 0
	for i := 0; i <= node; i++ {
		turn += patience
	}
	return turn
}

// isMade wants of New no error, and what the document words of one that is new.
func isMade(t *testing.T, node, patience int) *elect.Elect {
	t.Helper()
	e, err := elect.New(node, patience)
	if err != api.OK || e == nil {
		t.Fatalf("New(%d, %d): got error %d, is there one: %v", node, patience, err, e != nil)
	}
	isAt(t, fmt.Sprintf("New(%d, %d)", node, patience), e, turnInWords(node, patience), 0)
	return e
}

// isRefused wants of New ErrArg, and nothing beside.
func isRefused(t *testing.T, node, patience int) {
	t.Helper()
	e, err := elect.New(node, patience)
	if err != api.ErrArg || e != nil {
		t.Errorf("New(%d, %d): got error %d, is there one: %v, want error %d and none", node, patience, err, e != nil, api.ErrArg)
	}
}

// isAt wants this Left and Top, however often they are asked for.
func isAt(t *testing.T, what string, e *elect.Elect, left int, top uint64) {
	t.Helper()
	for range 2 {
		if gotLeft, gotTop := e.Left(), e.Top(); gotLeft != left || gotTop != top {
			t.Errorf("%s: got Left %d, Top %d, want %d, %d", what, gotLeft, gotTop, left, top)
		}
	}
}

// isTick wants this of Tick, and this Left and Top behind it.
func isTick(t *testing.T, what string, e *elect.Elect, want bool, left int, top uint64) {
	t.Helper()
	if got := e.Tick(); got != want {
		t.Errorf("%s: Tick: got %v, want %v", what, got, want)
	}
	isAt(t, what+": behind Tick", e, left, top)
}

// isHeard wants this of Heard, and this Left and Top behind it.
func isHeard(t *testing.T, what string, e *elect.Elect, ballot uint64, want bool, left int, top uint64) {
	t.Helper()
	if got := e.Heard(ballot); got != want {
		t.Errorf("%s: Heard(%d): got %v, want %v", what, ballot, got, want)
	}
	isAt(t, fmt.Sprintf("%s: behind Heard(%d)", what, ballot), e, left, top)
}

// isQuiet wants so many ticks at none of which it stands, each of which leaves 1 less.
func isQuiet(t *testing.T, what string, e *elect.Elect, many int) {
	t.Helper()
	left, top := e.Left(), e.Top()
	for i := 1; i <= many; i++ {
		if e.Tick() || e.Left() != left-i || e.Top() != top {
			t.Fatalf("%s: tick %d of %d: it stands, or got Left %d, Top %d, want %d, %d", what, i, many, e.Left(), e.Top(), left-i, top)
		}
	}
}

// words is an Elect as the document words it; it counts ticks up, and turns anew.
type words struct {
	turn, went int
	top        uint64
}

func (w *words) left() int { return w.turn - w.went }

func (w *words) tick() bool {
	w.went++
	if w.left() == 0 {
		w.went = 0
		return true
	}
	return false
}

func (w *words) heard(ballot uint64) bool {
	if ballot < w.top {
		return false
	}
	w.top, w.went = ballot, 0
	return true
}

// call is a tick, or a ballot that is heard.
type call struct {
	tick   bool
	ballot uint64
}

func (c call) String() string {
	if c.tick {
		return "Tick"
	}
	return fmt.Sprintf("Heard(%d)", c.ballot)
}

// isWorded wants of a call on both what the words tell.
func isWorded(t *testing.T, what string, e *elect.Elect, w *words, c call) {
	t.Helper()
	var got, want bool
	if c.tick {
		got, want = e.Tick(), w.tick()
	} else {
		got, want = e.Heard(c.ballot), w.heard(c.ballot)
	}
	if got != want {
		t.Fatalf("%s: %v: got %v, want %v", what, c, got, want)
	}
	if e.Left() != w.left() || e.Top() != w.top {
		t.Fatalf("%s: behind %v: got Left %d, Top %d, want %d, %d", what, c, e.Left(), e.Top(), w.left(), w.top)
	}
}

// The chapter's example: node 1 of patience 3 stands at the sixth tick, and at the sixth one behind that.
func TestExample(t *testing.T) {
	e := isMade(t, 1, 3)
	for range 3 {
		for left := 5; left >= 1; left-- {
			isTick(t, "node 1, patience 3", e, false, left, 0)
		}
		isTick(t, "node 1, patience 3", e, true, 6, 0)
	}
}

// P16.1: of each node and patience that may be, a turn, and no ballot.
func TestNew(t *testing.T) {
	for node := range nodes {
		for patience := 1; patience <= mostPatience; patience++ {
			isMade(t, node, patience)
		}
	}
	for _, c := range []struct{ node, patience, turn int }{
		{0, 1, 1}, {0, 2, 2}, {0, 999, 999}, {0, 1000, 1000}, {1, 1, 2}, {1, 3, 6}, {2, 3, 9}, {3, 7, 28}, {5, 10, 60},
		{30, 1, 31}, {31, 1, 32}, {30, 1000, 31000}, {31, 999, 31968}, {31, 1000, 32000},
	} {
		isAt(t, fmt.Sprintf("New(%d, %d)", c.node, c.patience), isMade(t, c.node, c.patience), c.turn, 0)
	}
}

// P16.1: what is no node, or no patience, is refused, whatever the other one is.
func TestNewRefused(t *testing.T) {
	for patience := -3; patience <= mostPatience+3; patience++ {
		isRefused(t, -1, patience)
		isRefused(t, 32, patience)
		isRefused(t, 33, patience)
	}
	for node := -3; node <= nodes+3; node++ {
		isRefused(t, node, -1)
		isRefused(t, node, 0)
		isRefused(t, node, 1001)
		isRefused(t, node, 1002)
	}
	for _, x := range strangers {
		for _, y := range []int{-1, 0, 1, 2, 31, 32, 1000, 1001} {
			isRefused(t, x, y)
			isRefused(t, y, x)
		}
		for _, y := range strangers {
			isRefused(t, x, y)
		}
	}
}

// P16.2: ticks count down to 1; the one that ends its turn, and no other one, stands, and the turn is whole again.
func TestTicks(t *testing.T) {
	for node := range nodes {
		for _, patience := range patiences {
			e := isMade(t, node, patience)
			what := fmt.Sprintf("node %d, patience %d", node, patience)
			turn := turnInWords(node, patience)
			for range 3 {
				isQuiet(t, what, e, turn-1)
				isAt(t, what+": just ahead of its turn", e, 1, 0)
				isTick(t, what+": its turn", e, true, turn, 0)
			}
			if turn > 1 {
				isTick(t, what+": just behind its turn", e, false, turn-1, 0)
			}
		}
	}
}

// P16.2: of a turn of 1 each tick stands, also behind what it hears.
func TestTurnOfOne(t *testing.T) {
	e := isMade(t, 0, 1)
	for range 20 {
		isTick(t, "a turn of 1", e, true, 1, 0)
	}
	isHeard(t, "a turn of 1", e, 7, true, 1, 7)
	for range 20 {
		isTick(t, "a turn of 1", e, true, 1, 7)
		isHeard(t, "a turn of 1", e, 6, false, 1, 7)
		isTick(t, "a turn of 1", e, true, 1, 7)
		isHeard(t, "a turn of 1", e, 7, true, 1, 7)
	}
}

// P16.2: of a turn of 2 each second tick does.
func TestTurnOfTwo(t *testing.T) {
	for _, c := range [][2]int{{0, 2}, {1, 1}} {
		e := isMade(t, c[0], c[1])
		for range 20 {
			isTick(t, "a turn of 2", e, false, 1, 0)
			isTick(t, "a turn of 2", e, true, 2, 0)
		}
		isTick(t, "a turn of 2", e, false, 1, 0)
		isHeard(t, "a turn of 2", e, 0, true, 2, 0)
		isTick(t, "a turn of 2", e, false, 1, 0)
		isTick(t, "a turn of 2", e, true, 2, 0)
	}
}

// P16.2: a ballot below Top isn't heard; one at Top, or above it, is, and the turn is whole again.
func TestHeard(t *testing.T) {
	e := isMade(t, 2, 4)
	isHeard(t, "new", e, 0, true, 12, 0)
	isQuiet(t, "Top 0", e, 3)
	isHeard(t, "Top 0", e, 0, true, 12, 0)
	isQuiet(t, "Top 0", e, 11)
	isHeard(t, "Top 0", e, 1, true, 12, 1)
	isQuiet(t, "Top 1", e, 5)
	isHeard(t, "Top 1", e, 0, false, 7, 1)
	isHeard(t, "Top 1", e, 1, true, 12, 1)
	isQuiet(t, "Top 1", e, 1)
	isHeard(t, "Top 1", e, 33, true, 12, 33)
	isQuiet(t, "Top 33", e, 8)
	isHeard(t, "Top 33", e, 32, false, 4, 33)
	isHeard(t, "Top 33", e, 1, false, 4, 33)
	isHeard(t, "Top 33", e, 0, false, 4, 33)
	isHeard(t, "Top 33", e, 34, true, 12, 34)
	isHeard(t, "Top 34", e, 33, false, 12, 34)
	isQuiet(t, "Top 34", e, 2)
	isHeard(t, "Top 34", e, 1<<63, true, 12, 1<<63)
	isQuiet(t, "Top 2^63", e, 2)
	isHeard(t, "Top 2^63", e, 1<<63-1, false, 10, 1<<63)
	isHeard(t, "Top 2^63", e, 34, false, 10, 1<<63)
	isHeard(t, "Top 2^63", e, end-1, true, 12, end-1)
	isQuiet(t, "Top 2^64 - 2", e, 10)
	isHeard(t, "Top 2^64 - 2", e, end, true, 12, end)
	isQuiet(t, "Top 2^64 - 1", e, 11)
	isHeard(t, "Top 2^64 - 1", e, end-1, false, 1, end)
	isHeard(t, "Top 2^64 - 1", e, 1<<63, false, 1, end)
	isHeard(t, "Top 2^64 - 1", e, 0, false, 1, end)
	isTick(t, "Top 2^64 - 1", e, true, 12, end)
	isHeard(t, "Top 2^64 - 1", e, 0, false, 12, end)
	isHeard(t, "Top 2^64 - 1", e, end, true, 12, end)
	isQuiet(t, "Top 2^64 - 1", e, 11)
	isTick(t, "Top 2^64 - 1", e, true, 12, end)
}

// P16.2: about each power of 2 ballots are told apart as whole numbers.
func TestHeardEdges(t *testing.T) {
	for bit := range 64 {
		top := uint64(1) << bit
		for _, ballot := range []uint64{0, 1, top - 1, top, top + 1, top ^ 1<<63, top ^ 1<<32, end - 1, end} {
			e := isMade(t, 0, 9)
			what := fmt.Sprintf("Top 2^%d", bit)
			isHeard(t, what, e, top, true, 9, top)
			isQuiet(t, what, e, 4)
			if ballot < top {
				isHeard(t, what, e, ballot, false, 5, top)
			} else {
				isHeard(t, what, e, ballot, true, 9, ballot)
			}
		}
	}
}

// P16.2: it waits for a whole turn behind what it hears, at whatever tick of a turn that is.
func TestHeardAtEachTick(t *testing.T) {
	for node := range nodes {
		for _, patience := range []int{1, 2, 3, 10} {
			turn := turnInWords(node, patience)
			for went := range turn {
				what := fmt.Sprintf("node %d, patience %d, %d ticks behind its turn", node, patience, went)
				e := isMade(t, node, patience)
				isQuiet(t, what, e, went)
				isHeard(t, what, e, 40, true, turn, 40)
				isQuiet(t, what, e, turn-1)
				isTick(t, what, e, true, turn, 40)
			}
		}
	}
}

// P16.2: a ballot below Top changes nothing, at whatever tick it comes, and however often.
func TestHeardBelowChangesNothing(t *testing.T) {
	for node := range nodes {
		for _, patience := range []int{1, 2, 5} {
			turn := turnInWords(node, patience)
			e := isMade(t, node, patience)
			what := fmt.Sprintf("node %d, patience %d", node, patience)
			isHeard(t, what, e, 1000, true, turn, 1000)
			for range 2 {
				for left := turn; left >= 1; left-- {
					for _, ballot := range []uint64{999, 0, 500, 999} {
						isHeard(t, what, e, ballot, false, left, 1000)
					}
					if left > 1 {
						isTick(t, what, e, false, left-1, 1000)
					}
				}
				isTick(t, what, e, true, turn, 1000)
			}
		}
	}
}

// P16.2: to stand leaves Top as it was; no ballot below it is heard behind that.
func TestTopStays(t *testing.T) {
	e := isMade(t, 1, 2)
	isHeard(t, "Top 65", e, 65, true, 4, 65)
	for range 10 {
		isQuiet(t, "Top 65", e, 3)
		isTick(t, "Top 65", e, true, 4, 65)
		isHeard(t, "Top 65", e, 64, false, 4, 65)
	}
	isHeard(t, "Top 65", e, 65, true, 4, 65)
}

// P16.2: of nil false and 0, whatever is asked, and how often.
func TestNil(t *testing.T) {
	var e *elect.Elect
	for range 3 {
		isTick(t, "nil", e, false, 0, 0)
		isHeard(t, "nil", e, 0, false, 0, 0)
		isHeard(t, "nil", e, 1, false, 0, 0)
		isHeard(t, "nil", e, end, false, 0, 0)
	}
	e, _ = elect.New(32, 1)
	isTick(t, "one that New refused", e, false, 0, 0)
	isHeard(t, "one that New refused", e, 5, false, 0, 0)
}

// Rule 1: one that New didn't make has some answers, too.
func TestNotMade(t *testing.T) {
	var e elect.Elect
	for range 100 {
		e.Tick()
		e.Heard(0)
		e.Heard(5)
		e.Left()
		e.Top()
	}
}

// P16.1, P16.2: two side by side share nothing, be they of one node or of two.
func TestSideBySide(t *testing.T) {
	for _, c := range [][4]int{{1, 3, 1, 3}, {0, 1, 0, 2}, {0, 5, 4, 1}, {2, 3, 3, 2}} {
		a, b := isMade(t, c[0], c[1]), isMade(t, c[2], c[3])
		turn, other := turnInWords(c[0], c[1]), turnInWords(c[2], c[3])
		isHeard(t, "the first one", a, 9, true, turn, 9)
		isAt(t, "the other one", b, other, 0)
		for range 3 {
			isQuiet(t, "the first one", a, turn-1)
			isAt(t, "the other one", b, other, 0)
			isTick(t, "the first one", a, true, turn, 9)
			isAt(t, "the other one", b, other, 0)
		}
		isHeard(t, "the other one", b, 4, true, other, 4)
		isQuiet(t, "the other one", b, other-1)
		isAt(t, "the first one", a, turn, 9)
		isHeard(t, "the first one", a, 4, false, turn, 9)
		isAt(t, "the other one", b, 1, 4)
	}
	l := make([]*elect.Elect, nodes)
	for node := range l {
		l[node] = isMade(t, node, 1)
		l[node].Heard(uint64(node))
	}
	for node, e := range l {
		isAt(t, fmt.Sprintf("node %d of all", node), e, node+1, uint64(node))
	}
}

// P16.3: who hears at each tick, or one tick ahead of its turn, never stands, of one ballot and of rising ones.
func TestHearsInTime(t *testing.T) {
	for node := range nodes {
		for _, patience := range patiences {
			turn := turnInWords(node, patience)
			if turn == 1 {
				continue // there is no tick ahead of its turn
			}
			for _, step := range []uint64{0, 1, 32} {
				e := isMade(t, node, patience)
				what := fmt.Sprintf("node %d, patience %d, ballots by %d", node, patience, step)
				ballot := uint64(node)
				for _, went := range []int{turn - 1, turn - 1, 1, turn / 2, turn - 1, 0, turn - 1} {
					for range went {
						if e.Tick() {
							t.Fatalf("%s: it stands", what)
						}
					}
					ballot += step
					isHeard(t, what, e, ballot, true, turn, ballot)
				}
			}
		}
	}
	e := isMade(t, 0, 2)
	for i := range uint64(5000) {
		isTick(t, "again and again", e, false, 1, i)
		isHeard(t, "again and again", e, i+1, true, 2, i+1)
	}
}

// P16.3: what comes a tick late, or isn't heard, is not in time.
func TestHearsTooLate(t *testing.T) {
	e := isMade(t, 3, 5)
	for i := range uint64(50) {
		isQuiet(t, "late", e, 19)
		isTick(t, "late", e, true, 20, i)
		isHeard(t, "late", e, i+1, true, 20, i+1)
	}
	isQuiet(t, "below Top", e, 19)
	isHeard(t, "below Top", e, 49, false, 1, 50)
	isTick(t, "below Top", e, true, 20, 50)
}

// P16.3: by chance, who hears within each turn never stands.
func TestHearsInTimeByChance(t *testing.T) {
	c := rand.New(rand.NewSource(16))
	for range 300 {
		node, patience := c.Intn(nodes), 1+c.Intn(60)
		e := isMade(t, node, patience)
		turn := turnInWords(node, patience)
		ballot := uint64(0)
		for range 50 {
			for range c.Intn(turn) {
				if e.Tick() {
					t.Fatalf("node %d, patience %d: it stands", node, patience)
				}
			}
			ballot += uint64(c.Intn(3))
			isHeard(t, fmt.Sprintf("node %d, patience %d", node, patience), e, ballot, true, turn, ballot)
		}
	}
}

// firstOf is the tick at which one stands for the first time, when it hears nothing.
func firstOf(t *testing.T, node, patience int) int {
	t.Helper()
	e := isMade(t, node, patience)
	for tick := 1; tick <= 2*nodes*mostPatience; tick++ {
		if e.Tick() {
			return tick
		}
	}
	t.Fatalf("node %d, patience %d never stands", node, patience)
	return 0
}

// P16.3: of nodes of one patience that hear nothing the lower one stands first, by so many ticks as they are patient.
func TestLowerStandsFirst(t *testing.T) {
	for _, patience := range patiences {
		var firsts []int
		for node := range nodes {
			firsts = append(firsts, firstOf(t, node, patience))
		}
		for high := range nodes {
			for low := range high {
				if firsts[high]-firsts[low] != (high-low)*patience {
					t.Errorf("patience %d: node %d stands at tick %d, node %d at tick %d", patience, low, firsts[low], high, firsts[high])
				}
			}
		}
	}
}

// P16.3: so it is of nodes that count the same ticks, in whatever order each tick comes to them.
func TestLowerStandsFirstTogether(t *testing.T) {
	c := rand.New(rand.NewSource(61))
	for _, patience := range []int{1, 2, 3, 10, 50} {
		var all []*elect.Elect
		for node := range nodes {
			all = append(all, isMade(t, node, patience))
		}
		var stood []int
		for range nodes * patience {
			for _, node := range c.Perm(nodes) {
				if all[node].Tick() && !slices.Contains(stood, node) {
					stood = append(stood, node)
				}
			}
		}
		if len(stood) != nodes || !slices.IsSorted(stood) {
			t.Errorf("patience %d: they stand in the order %v", patience, stood)
		}
	}
}

// P16.3: where the lowest node of them leads, and is heard, no other one ever stands; when it falls silent the next one does.
func TestOneAfterTheOther(t *testing.T) {
	const patience = 3
	var all []*elect.Elect
	for node := range nodes {
		all = append(all, isMade(t, node, patience))
	}
	for leads := range nodes {
		ballot := uint64(32*leads + leads)
		stood := -1
		for stood < 0 { // those ahead of it fell silent
			for node := leads; node < nodes && stood < 0; node++ {
				if all[node].Tick() {
					stood = node
				}
			}
		}
		if stood != leads {
			t.Fatalf("node %d stands, want %d", stood, leads)
		}
		for range 40 {
			for node := leads; node < nodes; node++ {
				isHeard(t, fmt.Sprintf("node %d", node), all[node], ballot, true, turnInWords(node, patience), ballot)
				if node > leads && all[node].Tick() {
					t.Fatalf("node %d stands, though it hears node %d", node, leads)
				}
			}
		}
	}
}

// P16.2: each row of six calls, of turns of 1 to 5, goes as the document words it.
func TestAllShortRows(t *testing.T) {
	calls := []call{{tick: true}, {ballot: 0}, {ballot: 1}, {ballot: 2}, {ballot: end}}
	for _, c := range [][2]int{{0, 1}, {0, 2}, {1, 1}, {2, 1}, {0, 3}, {1, 2}, {3, 1}, {0, 5}} {
		for row := range 5 * 5 * 5 * 5 * 5 * 5 {
			e, _ := elect.New(c[0], c[1])
			w := words{turn: turnInWords(c[0], c[1])}
			what := fmt.Sprintf("node %d, patience %d, row %d", c[0], c[1], row)
			for range 6 {
				isWorded(t, what, e, &w, calls[row%5])
				row /= 5
			}
		}
	}
}

// P16.1, P16.2: ticks and ballots by chance go as the document words them, for all nodes.
func TestChance(t *testing.T) {
	c := rand.New(rand.NewSource(1616))
	for round := range 640 {
		node, patience := round%nodes, 1+c.Intn(5)
		if round%4 == 0 {
			patience = 1 + c.Intn(mostPatience)
		}
		e := isMade(t, node, patience)
		w := words{turn: turnInWords(node, patience)}
		what := fmt.Sprintf("node %d, patience %d", node, patience)
		rare := 1 + c.Intn(2*w.turn)
		for range 3*w.turn + 100 {
			k := call{tick: c.Intn(rare) != 0}
			switch c.Intn(5) {
			case 0:
				k.ballot = w.top - uint64(c.Intn(3)) // from 0 on down this is a great one
			case 1:
				k.ballot = c.Uint64() >> c.Intn(64)
			default:
				k.ballot = w.top + uint64(c.Intn(40))
			}
			isWorded(t, what, e, &w, k)
		}
	}
}

// P16.2: over many turns it stands as often as they go by.
func TestManyTurns(t *testing.T) {
	for _, c := range [][2]int{{0, 1}, {0, 7}, {6, 1}, {31, 1}, {31, 1000}} {
		e := isMade(t, c[0], c[1])
		turn := turnInWords(c[0], c[1])
		for tick := 1; tick <= 40*turn+turn/2; tick++ {
			if got, want := e.Tick(), tick%turn == 0; got != want {
				t.Fatalf("node %d, patience %d: tick %d: got %v, want %v", c[0], c[1], tick, got, want)
			}
		}
		isAt(t, "in the middle of a turn", e, turn-turn/2, 0)
	}
}

// Rule 4: the same calls have the same answers, whatever others do between.
func TestSameAgain(t *testing.T) {
	run := func(node, patience int) string {
		e, err := elect.New(node, patience)
		text := fmt.Sprint(err)
		for i := range uint64(100) {
			text += fmt.Sprint(e.Tick(), e.Heard(i*i%31), e.Tick(), e.Left(), e.Top())
		}
		return text
	}
	type made struct{ node, patience int }
	answers := map[made]string{}
	var all []made
	for node := -1; node <= nodes; node++ {
		for _, patience := range []int{0, 1, 2, 3, 1000, 1001} {
			all = append(all, made{node, patience})
		}
	}
	for range 2 {
		for _, m := range all {
			got := run(m.node, m.patience)
			if was, is := answers[m]; is && was != got {
				t.Errorf("node %d, patience %d: the same calls have two answers", m.node, m.patience)
			}
			answers[m] = got
		}
		slices.Reverse(all)
	}
}
