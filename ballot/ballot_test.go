package ballot_test

import (
	"fmt"
	"math"
	"math/big"
	"math/rand"
	"slices"
	"testing"

	"notcher/api"
	"notcher/ballot"
)

const (
	top   = uint64(18446744073709551615) // the greatest number there is
	worn  = uint64(576460752303423488)   // 2^59: the first round that there isn't
	nodes = 32
)

// strangers are numbers that are no node's.
var strangers = []int{
	-1, -2, -5, -31, -32, -33, -64, 32, 33, 37, 63, 64, 65, 1000,
	-1 << 31, -1<<31 + 5, 1<<31 - 1, 1 << 31, 1<<32 - 1, 1 << 32, 1<<32 + 5, -1 << 32, -1<<32 + 5,
	1 << 58, 1 << 59, 1<<59 + 5, 1 << 62, math.MinInt, math.MinInt + 1, math.MinInt + 31, math.MaxInt - 31, math.MaxInt - 1, math.MaxInt,
}

// whole is a number that may grow above 2^64.
func whole(x uint64) *big.Int { return new(big.Int).SetUint64(x) }

// many is 32, as such a number.
func many() *big.Int { return big.NewInt(nodes) }

// makeInWords is Make as the document words it, in numbers without an end.
func makeInWords(round uint64, node int) (uint64, api.Errno) {
	isNode := false
	for i := range nodes {
		isNode = isNode || i == node
	}
	if !isNode {
		return 0, api.ErrArg
	}
	limit := new(big.Int).Exp(big.NewInt(2), big.NewInt(59), nil)
	if whole(round).Cmp(limit) >= 0 {
		return 0, api.ErrWorn
	}
	b := new(big.Int).Mul(many(), whole(round))
	b.Add(b, big.NewInt(int64(node)))
	return b.Uint64(), api.OK
}

// toldInWords are Round and Node as the document words them.
func toldInWords(b uint64) (uint64, int) {
	round, node := new(big.Int).DivMod(whole(b), many(), new(big.Int))
	return round.Uint64(), int(node.Int64())
}

// nextInWords is Next as the document words it: what stands above b is gone through one by one, till one is the node's, or is no number any more.
func nextInWords(b uint64, node int) (uint64, api.Errno) {
	if _, e := makeInWords(0, node); e != api.OK {
		return 0, e
	}
	x := whole(b)
	for {
		x.Add(x, big.NewInt(1))
		if !x.IsUint64() {
			return 0, api.ErrWorn
		}
		if _, of := toldInWords(x.Uint64()); of == node {
			return x.Uint64(), api.OK
		}
	}
}

// isAnswer wants this number and error, and no number beside an error.
func isAnswer(t *testing.T, what string, got uint64, e api.Errno, want uint64, err api.Errno) {
	t.Helper()
	if got != want || e != err {
		t.Errorf("%s: got %d, error %d, want %d, error %d", what, got, e, want, err)
	}
	if e != api.OK && got != 0 {
		t.Errorf("%s: got %d beside error %d", what, got, e)
	}
}

func isMake(t *testing.T, round uint64, node int, want uint64, err api.Errno) {
	t.Helper()
	got, e := ballot.Make(round, node)
	isAnswer(t, fmt.Sprintf("Make(%d, %d)", round, node), got, e, want, err)
}

func isNext(t *testing.T, b uint64, node int, want uint64, err api.Errno) {
	t.Helper()
	got, e := ballot.Next(b, node)
	isAnswer(t, fmt.Sprintf("Next(%d, %d)", b, node), got, e, want, err)
}

// isTold wants this round and node of a ballot.
func isTold(t *testing.T, b, round uint64, node int) {
	t.Helper()
	if gotRound, gotNode := ballot.Round(b), ballot.Node(b); gotRound != round || gotNode != node {
		t.Errorf("%d: got round %d, node %d, want round %d, node %d", b, gotRound, gotNode, round, node)
	}
}

// isWorded wants of all calls on a number and a node what the document's words tell.
func isWorded(t *testing.T, x uint64, node int) {
	t.Helper()
	want, err := makeInWords(x, node)
	isMake(t, x, node, want, err)
	want, err = nextInWords(x, node)
	isNext(t, x, node, want, err)
	round, of := toldInWords(x)
	isTold(t, x, round, of)
}

// mustMake is the ballot of a round and a node that may be.
func mustMake(t *testing.T, round uint64, node int) uint64 {
	t.Helper()
	b, e := ballot.Make(round, node)
	if e != api.OK {
		t.Fatalf("Make(%d, %d): got error %d", round, node, e)
	}
	return b
}

// edges are numbers at which something might change: the first ones, the last ones, and those about each power of 2.
func edges() []uint64 {
	var l []uint64
	for x := range uint64(200) {
		l = append(l, x, top-x)
	}
	for bit := 6; bit < 64; bit++ {
		for d := range uint64(36) {
			l = append(l, 1<<bit-d, 1<<bit+d)
		}
	}
	slices.Sort(l)
	return slices.Compact(l)
}

// rounds are those of the edges that may be.
func rounds() []uint64 {
	return slices.DeleteFunc(edges(), func(x uint64) bool { return x >= worn })
}

// chance is a number that looks like chance, of any length.
func chance(c *rand.Rand) uint64 {
	x := c.Uint64() >> c.Intn(64)
	if c.Intn(4) == 0 {
		return top - x
	}
	return x
}

// The chapter's example.
func TestExample(t *testing.T) {
	isNext(t, 33, 0, 64, api.OK)
	isTold(t, 33, 1, 1)
}

// P12.1: 32 times round, and node.
func TestMake(t *testing.T) {
	for node := range nodes {
		isMake(t, 0, node, uint64(node), api.OK)
		isMake(t, 1, node, 32+uint64(node), api.OK)
		isMake(t, 2, node, 64+uint64(node), api.OK)
		isMake(t, 3, node, 96+uint64(node), api.OK)
		isMake(t, 1000, node, 32000+uint64(node), api.OK)
		isMake(t, 1<<27, node, 1<<32+uint64(node), api.OK)
		isMake(t, 1<<58, node, 1<<63+uint64(node), api.OK)
		isMake(t, worn-1, node, top-31+uint64(node), api.OK)
	}
	isMake(t, 0, 0, 0, api.OK)
	isMake(t, 0, 31, 31, api.OK)
	isMake(t, 2, 6, 70, api.OK)
	isMake(t, worn-1, 0, 18446744073709551584, api.OK)
	isMake(t, worn-1, 31, 18446744073709551615, api.OK)
}

// P12.1: a round of 2^59 or more has no ballot, of no node, whatever is left of it behind a shift.
func TestMakeWorn(t *testing.T) {
	for node := range nodes {
		for _, round := range []uint64{worn, worn + 1, worn + 2, worn + 31, worn + 32, 2*worn - 1, 2 * worn, 4 * worn, 16 * worn, 17*worn + 3, 31 * worn, 1 << 63, 1<<63 + 1, top - 32, top - 1, top} {
			isMake(t, round, node, 0, api.ErrWorn)
		}
	}
}

// P12.1: of who is no node that is told, whatever the round.
func TestMakeOfNoNode(t *testing.T) {
	for _, node := range strangers {
		for _, round := range []uint64{0, 1, 2, 1000, 1 << 58, worn - 1, worn, worn + 1, 1 << 63, top - 1, top} {
			isMake(t, round, node, 0, api.ErrArg)
		}
	}
}

// P12.1: each number is a ballot of just one round and node.
func TestRoundNode(t *testing.T) {
	isTold(t, 0, 0, 0)
	isTold(t, 1, 0, 1)
	isTold(t, 31, 0, 31)
	isTold(t, 32, 1, 0)
	isTold(t, 33, 1, 1)
	isTold(t, 63, 1, 31)
	isTold(t, 64, 2, 0)
	isTold(t, 70, 2, 6)
	isTold(t, 1<<32, 1<<27, 0)
	isTold(t, 1<<32-1, 1<<27-1, 31)
	isTold(t, 1<<63, 1<<58, 0)
	isTold(t, 1<<63-1, 1<<58-1, 31)
	isTold(t, 1<<63+17, 1<<58, 17)
	isTold(t, top-32, worn-2, 31)
	isTold(t, top-31, worn-1, 0)
	isTold(t, top-1, worn-1, 30)
	isTold(t, top, worn-1, 31)
}

// P12.2: ballots of small rounds, the node's own, and those beside it.
func TestNext(t *testing.T) {
	for node := range nodes {
		own := uint64(node)
		for _, b := range []uint64{0, 31, 32, 33} {
			want, e := nextInWords(b, node)
			isNext(t, b, node, want, e)
		}
		isNext(t, own, node, own+32, api.OK)
		isNext(t, own+1, node, own+32, api.OK)
		isNext(t, own+31, node, own+32, api.OK)
		isNext(t, own+32, node, own+64, api.OK)
		isNext(t, own+33, node, own+64, api.OK)
		isNext(t, own+32*1000-1, node, own+32*1000, api.OK)
		isNext(t, own+32*1000, node, own+32*1001, api.OK)
		isNext(t, own+1<<63, node, own+1<<63+32, api.OK)
		isNext(t, own+1<<63-1, node, own+1<<63, api.OK)
		if node > 0 {
			isNext(t, own-1, node, own, api.OK)
			isNext(t, 0, node, own, api.OK)
		}
	}
	isNext(t, 0, 0, 32, api.OK)
	isNext(t, 0, 1, 1, api.OK)
	isNext(t, 0, 31, 31, api.OK)
	isNext(t, 31, 0, 32, api.OK)
	isNext(t, 31, 1, 33, api.OK)
	isNext(t, 31, 31, 63, api.OK)
	isNext(t, 32, 0, 64, api.OK)
	isNext(t, 32, 1, 33, api.OK)
	isNext(t, 32, 31, 63, api.OK)
	isNext(t, 33, 0, 64, api.OK)
	isNext(t, 33, 1, 65, api.OK)
	isNext(t, 33, 2, 34, api.OK)
	isNext(t, 33, 31, 63, api.OK)
}

// P12.2: where there is none above any more, that is told; where there is one yet, it is the last one.
func TestNextAtTheEnd(t *testing.T) {
	for _, c := range []struct {
		b    uint64
		node int
		want uint64
		err  api.Errno
	}{
		{top - 64, 31, top - 32, api.OK},
		{top - 33, 31, top - 32, api.OK},
		{top - 32, 31, top, api.OK},
		{top - 32, 0, top - 31, api.OK},
		{top - 31, 0, 0, api.ErrWorn},
		{top - 31, 1, top - 30, api.OK},
		{top - 31, 30, top - 1, api.OK},
		{top - 31, 31, top, api.OK},
		{top - 30, 0, 0, api.ErrWorn},
		{top - 30, 1, 0, api.ErrWorn},
		{top - 30, 2, top - 29, api.OK},
		{top - 2, 29, 0, api.ErrWorn},
		{top - 2, 30, top - 1, api.OK},
		{top - 2, 31, top, api.OK},
		{top - 1, 0, 0, api.ErrWorn},
		{top - 1, 1, 0, api.ErrWorn},
		{top - 1, 30, 0, api.ErrWorn},
		{top - 1, 31, top, api.OK},
		{top, 0, 0, api.ErrWorn},
		{top, 1, 0, api.ErrWorn},
		{top, 30, 0, api.ErrWorn},
		{top, 31, 0, api.ErrWorn},
	} {
		isNext(t, c.b, c.node, c.want, c.err)
	}
	for node := range nodes {
		isNext(t, top, node, 0, api.ErrWorn)
		last := mustMake(t, worn-1, node)
		isNext(t, last-1, node, last, api.OK)
		isNext(t, last, node, 0, api.ErrWorn)
	}
}

// P12.2: of who is no node that is told, whether there is one above or not.
func TestNextOfNoNode(t *testing.T) {
	for _, node := range strangers {
		for _, b := range []uint64{0, 1, 30, 31, 32, 33, 1000, 1<<63 - 1, 1 << 63, top - 32, top - 31, top - 30, top - 1, top} {
			isNext(t, b, node, 0, api.ErrArg)
		}
	}
}

// P12.1, P12.2: at all edges each call tells what the document's words tell.
func TestEdges(t *testing.T) {
	for _, x := range edges() {
		for node := -1; node <= nodes; node++ {
			isWorded(t, x, node)
		}
	}
}

// P12.1, P12.2: and so it does of numbers that look like chance.
func TestChance(t *testing.T) {
	c := rand.New(rand.NewSource(12))
	for range 20000 {
		x := chance(c)
		isWorded(t, x, c.Intn(nodes))
		isWorded(t, x, int(chance(c)))
	}
}

// P12.3: Round and Node of what Make gives are what was handed in, and each number is what Make gives of its round and node.
func TestThereAndBack(t *testing.T) {
	for _, round := range rounds() {
		for node := range nodes {
			isTold(t, mustMake(t, round, node), round, node)
		}
	}
	c := rand.New(rand.NewSource(123))
	all := edges()
	for range 20000 {
		all = append(all, chance(c))
	}
	for _, b := range all {
		isMake(t, ballot.Round(b), ballot.Node(b), b, api.OK)
	}
}

// P12.2, P12.3: what Next gives is above b, is the node's own, and no other ballot of the node's own stands between.
func TestNextIsTheLowest(t *testing.T) {
	for _, b := range edges() {
		for node := range nodes {
			next, e := ballot.Next(b, node)
			if e != api.OK {
				if last := mustMake(t, worn-1, node); b < last {
					t.Errorf("Next(%d, %d): got error %d, but %d is above", b, node, e, last)
				}
				continue
			}
			if next <= b || ballot.Node(next) != node {
				t.Errorf("Next(%d, %d): got %d, of node %d", b, node, next, ballot.Node(next))
			}
			round := ballot.Round(next)
			if round == 0 {
				continue // a node has none ahead of this one
			}
			if ahead := mustMake(t, round-1, node); ahead > b {
				t.Errorf("Next(%d, %d): got %d, but %d is above, too", b, node, next, ahead)
			}
		}
	}
}

// P12.2, P12.3: a node that asks again and again gets all its ballots, round by round.
func TestNextOfNext(t *testing.T) {
	for node := range nodes {
		for _, start := range []uint64{0, 1<<27 - 4, 1<<58 - 4} {
			b := mustMake(t, start, node)
			for round := start + 1; round < start+100; round++ {
				isNext(t, b, node, mustMake(t, round, node), api.OK)
				b, _ = ballot.Next(b, node)
			}
		}
		b := mustMake(t, worn-5, node)
		for round := worn - 4; round < worn; round++ {
			isNext(t, b, node, mustMake(t, round, node), api.OK)
			b, _ = ballot.Next(b, node)
		}
		isNext(t, b, node, 0, api.ErrWorn)
	}
}

// P12.3: nodes that outdo one another, in any order, never meet, and always rise.
func TestNodesInTurn(t *testing.T) {
	c := rand.New(rand.NewSource(21))
	owner := map[uint64]int{}
	b := uint64(0)
	for range 20000 {
		node := c.Intn(nodes)
		next, e := ballot.Next(b, node)
		if e != api.OK || next <= b || next > b+nodes {
			t.Fatalf("Next(%d, %d): got %d, error %d", b, node, next, e)
		}
		if other, is := owner[next]; is {
			t.Fatalf("%d is node %d's, and node %d's", next, other, node)
		}
		owner[next] = node
		b = next
	}
	for b, node := range owner {
		if ballot.Node(b) != node {
			t.Errorf("%d: got node %d, want %d", b, ballot.Node(b), node)
		}
	}
}

// P12.3: no two rounds and nodes have one ballot, so no two nodes have.
func TestNoTwoAlike(t *testing.T) {
	type parts struct {
		round uint64
		node  int
	}
	seen := map[uint64]parts{}
	for _, round := range rounds() {
		for node := range nodes {
			b := mustMake(t, round, node)
			if other, is := seen[b]; is {
				t.Errorf("%d is of round %d, node %d, and of round %d, node %d", b, other.round, other.node, round, node)
			}
			seen[b] = parts{round, node}
		}
	}
}

// P12.3: of two ballots the one of the greater round is the greater one; in a round they rise by nodes.
func TestOrder(t *testing.T) {
	ahead, is := uint64(0), false
	for _, round := range rounds() {
		for node := range nodes {
			b := mustMake(t, round, node)
			if is && b <= ahead {
				t.Errorf("round %d, node %d: got %d, that is not above %d", round, node, b, ahead)
			}
			ahead, is = b, true
		}
	}
	c := rand.New(rand.NewSource(32))
	for range 20000 {
		a, b := chance(c), chance(c)
		if ballot.Round(a) > ballot.Round(b) && a <= b {
			t.Errorf("%d is of round %d, %d of round %d", a, ballot.Round(a), b, ballot.Round(b))
		}
		low, high := chance(c)>>5, chance(c)>>5
		if low == high {
			continue
		}
		low, high = min(low, high), max(low, high)
		if x, y := mustMake(t, low, c.Intn(nodes)), mustMake(t, high, c.Intn(nodes)); x >= y {
			t.Errorf("%d of round %d, %d of round %d", x, low, y, high)
		}
	}
}

// P12.1, P12.2: the same calls have the same answers, whatever was asked between.
func TestSameAgain(t *testing.T) {
	run := func(x uint64, node int) string {
		made, e := ballot.Make(x, node)
		next, f := ballot.Next(x, node)
		return fmt.Sprint(made, e, ballot.Round(x), ballot.Node(x), next, f)
	}
	type call struct {
		x    uint64
		node int
	}
	var calls []call
	for _, x := range []uint64{0, 1, 31, 32, 33, 1 << 58, worn - 1, worn, 1 << 63, top - 1, top} {
		for node := -1; node <= nodes; node++ {
			calls = append(calls, call{x, node})
		}
	}
	answers := map[call]string{}
	for range 2 {
		for _, k := range calls {
			got := run(k.x, k.node)
			if was, is := answers[k]; is && was != got {
				t.Errorf("%d, %d: got %s, it was %s", k.x, k.node, got, was)
			}
			answers[k] = got
		}
		slices.Reverse(calls)
	}
}
