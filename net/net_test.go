package net_test

import (
	"bytes"
	"fmt"
	"math"
	"slices"
	"testing"

	"notcher/api"
	"notcher/net"
)

// The limits, in the document's own numbers.
const (
	mostNodes   = 32
	mostPackets = 4096
)

// farInts are numbers far beside all nodes, and the places of a few packets; some of them would be good ones if they were cut to fewer bits.
func farInts() []int {
	return []int{-1, -2, -32, -4096, 1 << 8, 1<<8 + 1, 1 << 16, 1<<16 + 1, 1 << 32, 1<<32 + 1, math.MinInt, math.MinInt + 1, math.MaxInt - 1, math.MaxInt}
}

// packet is the k-th packet of many among so many nodes: its bytes are those of no other one.
func packet(k, nodes int) net.Packet {
	return net.Packet{From: k % nodes, To: k / 2 % nodes, Data: dataOf(k)}
}

// dataOf are bytes that tell k; how many they are differs, too.
func dataOf(k int) []byte {
	return append([]byte{byte(k >> 8), byte(k)}, make([]byte, k%5)...)
}

// packets are the first so many of them.
func packets(many, nodes int) []net.Packet {
	l := make([]net.Packet, many)
	for k := range l {
		l[k] = packet(k, nodes)
	}
	return l
}

// between is a packet from a node to another one, with a byte.
func between(from, to int, b byte) net.Packet {
	return net.Packet{From: from, To: to, Data: []byte{b}}
}

// cloned are the same packets in other memory.
func cloned(l []net.Packet) []net.Packet {
	c := slices.Clone(l)
	for i := range c {
		c[i].Data = bytes.Clone(c[i].Data)
	}
	return c
}

// fresh is a net of so many nodes.
func fresh(t *testing.T, nodes int) *net.Net {
	t.Helper()
	n, e := net.New(nodes)
	if e != api.OK || n == nil {
		t.Fatalf("New(%d): got error %d", nodes, e)
	}
	return n
}

// with is a net to which packets were sent.
func with(t *testing.T, nodes int, l ...net.Packet) *net.Net {
	t.Helper()
	n := fresh(t, nodes)
	for _, p := range cloned(l) {
		isErr(t, "Send", n.Send(p), api.OK)
	}
	isLen(t, "what was sent", n, len(l))
	return n
}

func isErr(t *testing.T, what string, got, want api.Errno) {
	t.Helper()
	if got != want {
		t.Errorf("%s: got error %d, want %d", what, got, want)
	}
}

func isLen(t *testing.T, what string, n *net.Net, want int) {
	t.Helper()
	if got := n.Len(); got != want {
		t.Fatalf("%s: got %d packets, want %d", what, got, want)
	}
}

func isPacket(t *testing.T, what string, got, want net.Packet) {
	t.Helper()
	if got.From != want.From || got.To != want.To || !bytes.Equal(got.Data, want.Data) {
		t.Errorf("%s: got %d to %d, % d, want %d to %d, % d", what, got.From, got.To, got.Data, want.From, want.To, want.Data)
	}
}

// takes takes the packet at a place, and says which one it must be.
func takes(t *testing.T, what string, n *net.Net, i int, want net.Packet) net.Packet {
	t.Helper()
	p, is := n.Take(i)
	if !is {
		t.Errorf("%s: Take(%d): got false", what, i)
	}
	isPacket(t, fmt.Sprintf("%s: Take(%d)", what, i), p, want)
	return p
}

// takesNone says that there is none at a place, and that nothing goes.
func takesNone(t *testing.T, what string, n *net.Net, i int) {
	t.Helper()
	before := n.Len()
	p, is := n.Take(i)
	if is || p.From != 0 || p.To != 0 || len(p.Data) != 0 {
		t.Errorf("%s: Take(%d): got %v, %t", what, i, p, is)
	}
	isLen(t, what, n, before)
}

// holds says which packets there are, in order; they are taken for it.
func holds(t *testing.T, what string, n *net.Net, want ...net.Packet) {
	t.Helper()
	isLen(t, what, n, len(want))
	for k, p := range want {
		takes(t, fmt.Sprint(what, ": packet ", k), n, 0, p)
	}
	takesNone(t, what, n, 0)
	isLen(t, what+": all taken", n, 0)
}

// tellsTo asks To, and says what it must answer.
func tellsTo(t *testing.T, what string, n *net.Net, node int, want ...int) {
	t.Helper()
	if got := n.To(node); !slices.Equal(got, want) {
		t.Errorf("%s: To(%d): got %d, want %d", what, node, got, want)
	}
}

// clears asks Clear, and says how many it must answer.
func clears(t *testing.T, what string, n *net.Net, node, want int) {
	t.Helper()
	if got := n.Clear(node); got != want {
		t.Errorf("%s: Clear(%d): got %d, want %d", what, node, got, want)
	}
}

// wantTo are the places by the document's words.
func wantTo(l []net.Packet, node int) []int {
	var places []int
	for i, p := range l {
		if p.To == node {
			places = append(places, i)
		}
	}
	return places
}

// wantClear is what is left by the document's words.
func wantClear(l []net.Packet, node int) []net.Packet {
	var left []net.Packet
	for _, p := range l {
		if p.From != node && p.To != node {
			left = append(left, p)
		}
	}
	return left
}

// without is a list without the item at a place, in new memory.
func without(l []net.Packet, i int) []net.Packet {
	return slices.Concat(l[:i], l[i+1:])
}

// P5.1: of how many nodes a net may be; a new one has no packets.
func TestNew(t *testing.T) {
	for nodes := -3; nodes <= mostNodes+3; nodes++ {
		if nodes >= 1 && nodes <= mostNodes {
			holds(t, fmt.Sprint("a new one of ", nodes), fresh(t, nodes))
			continue
		}
		refusesNew(t, nodes)
	}
	for _, nodes := range farInts() {
		refusesNew(t, nodes)
	}
}

func refusesNew(t *testing.T, nodes int) {
	t.Helper()
	n, e := net.New(nodes)
	isErr(t, fmt.Sprint("New of ", nodes), e, api.ErrArg)
	if n != nil {
		t.Errorf("New of %d: got a net beside an error", nodes)
	}
}

// P5.1: nets know nothing of one another.
func TestNewIsItsOwn(t *testing.T) {
	a, b := fresh(t, 3), fresh(t, 2)
	isErr(t, "Send", a.Send(between(2, 1, 7)), api.OK)
	isLen(t, "the other one", b, 0)
	isErr(t, "Send of the other one", b.Send(between(2, 1, 7)), api.ErrArg)
	isErr(t, "Send", b.Send(between(0, 1, 8)), api.OK)
	clears(t, "the other one", b, 1, 1)
	holds(t, "the first one", a, between(2, 1, 7))
}

// P5.1: From and To must be nodes, each of them: all pairs of those that are, and those close by.
func TestSendOfNodes(t *testing.T) {
	for _, nodes := range []int{1, 2, 3, 31, 32} {
		n := fresh(t, nodes)
		var want []net.Packet
		for from := -2; from < nodes+2; from++ {
			for to := -2; to < nodes+2; to++ {
				e := api.ErrArg
				p := net.Packet{From: from, To: to, Data: []byte{byte(from), byte(to)}}
				if from >= 0 && from < nodes && to >= 0 && to < nodes {
					e = api.OK
					want = append(want, p)
				}
				isErr(t, fmt.Sprintf("of %d nodes: Send from %d to %d", nodes, from, to), n.Send(p), e)
				isLen(t, "Send", n, len(want))
			}
		}
		holds(t, "what was sent", n, want...)
	}
}

// P5.1: numbers far beside the nodes.
func TestSendOfNoNodes(t *testing.T) {
	for _, nodes := range []int{1, 2, 32} {
		n := fresh(t, nodes)
		for _, x := range farInts() {
			isErr(t, fmt.Sprint("from ", x), n.Send(between(x, 0, 1)), api.ErrArg)
			isErr(t, fmt.Sprint("to ", x), n.Send(between(0, x, 1)), api.ErrArg)
			isErr(t, fmt.Sprint("both ", x), n.Send(between(x, x, 1)), api.ErrArg)
			isErr(t, fmt.Sprint("from -1 to ", x), n.Send(between(-1, x, 1)), api.ErrArg)
		}
		holds(t, "none of them", n)
	}
}

// P5.1: what is sent is behind all others.
func TestSendIsBehind(t *testing.T) {
	for many := range 40 {
		holds(t, "what was sent", with(t, 7, packets(many, 7)...), packets(many, 7)...)
	}
	p := between(1, 0, 5)
	holds(t, "the same one again", with(t, 2, p, p, between(0, 1, 5), p), p, p, between(0, 1, 5), p)
}

// P5.1: a packet may have no bytes, or many.
func TestSendOfData(t *testing.T) {
	room := []byte{1, 2, 3, 4}
	for _, data := range [][]byte{nil, {}, room[:0], room[2:2], {0}, {255}, make([]byte, 64), make([]byte, 70000), bytes.Repeat([]byte{9, 8}, 1<<19)} {
		p := net.Packet{From: 2, To: 1, Data: data}
		n := with(t, 3, between(0, 0, 1), p, between(1, 1, 2))
		tellsTo(t, "with data", n, 1, 1, 2)
		isErr(t, "Twice", n.Twice(1), api.OK)
		holds(t, "with data", n, between(0, 0, 1), p, between(1, 1, 2), p)
	}
}

// P5.1: up to 4096 packets there are, not one more; one that is out makes room for one.
func TestSendOfTooMany(t *testing.T) {
	l := packets(mostPackets, mostNodes)
	n := with(t, mostNodes, l[:mostPackets-2]...)
	isErr(t, "the 4095th", n.Send(l[mostPackets-2]), api.OK)
	isErr(t, "the 4096th", n.Send(l[mostPackets-1]), api.OK)
	for range 3 {
		isErr(t, "the 4097th", n.Send(between(1, 2, 9)), api.ErrBig)
		isErr(t, "the 4097th, of no bytes", n.Send(net.Packet{}), api.ErrBig)
		isLen(t, "full", n, mostPackets)
	}
	takes(t, "full", n, 100, l[100])
	more := between(3, 4, 9)
	isErr(t, "where one went", n.Send(more), api.OK)
	isErr(t, "one more", n.Send(more), api.ErrBig)
	holds(t, "all", n, append(without(l, 100), more)...)
	isErr(t, "where all went", n.Send(more), api.OK)
	holds(t, "it", n, more)
}

// P5.1: in a full net the nodes' error comes first.
func TestSendOfNoNodesWhereItIsFull(t *testing.T) {
	l := packets(mostPackets, 5)
	n := with(t, 5, l...)
	for _, x := range append(farInts(), 5, 6, 32) {
		isErr(t, fmt.Sprint("from ", x), n.Send(between(x, 0, 1)), api.ErrArg)
		isErr(t, fmt.Sprint("to ", x), n.Send(between(0, x, 1)), api.ErrArg)
	}
	isErr(t, "the last node", n.Send(between(4, 4, 1)), api.ErrBig)
	holds(t, "full", n, l...)
}

// P5.1: packets that were refused leave nothing.
func TestRefusedPacketsTakeNoRoom(t *testing.T) {
	n := fresh(t, 2)
	for range mostPackets + 1 {
		isErr(t, "Send", n.Send(between(0, 2, 1)), api.ErrArg)
		isErr(t, "Twice", n.Twice(0), api.ErrRange)
	}
	l := packets(mostPackets, 2)
	for _, p := range l {
		isErr(t, "Send", n.Send(p), api.OK)
	}
	holds(t, "all", n, l...)
}

// P5.1: Data is a copy: what the caller changes changes nothing in the net, and the other way round.
func TestSendCopiesData(t *testing.T) {
	for room := range 6 {
		whole := []byte{1, 2, 3, 4, 5, 6, 7, 8}[:3+room]
		data := whole[:3]
		kept := bytes.Clone(whole)
		p := net.Packet{From: 1, To: 2, Data: data}
		n := fresh(t, 3)
		for range 3 {
			isErr(t, "Send", n.Send(p), api.OK)
		}
		if p.From != 1 || p.To != 2 || &p.Data[0] != &whole[0] || !bytes.Equal(whole, kept) {
			t.Errorf("what was handed in is % d now", whole)
		}
		for i := range whole {
			whole[i] ^= 255
		}
		want := net.Packet{From: 1, To: 2, Data: kept[:3]}
		spoil(takes(t, "behind a change", n, 1, want))
		if whole[0] != kept[0]^255 || whole[len(whole)-1] != kept[len(whole)-1]^255 {
			t.Errorf("what was handed in is % d now", whole)
		}
		holds(t, "behind changes", n, want, want)
	}
}

// spoil changes all that is reached of a packet's bytes.
func spoil(p net.Packet) {
	for i := range p.Data {
		p.Data[i] ^= 255
	}
	behind := p.Data[:cap(p.Data)]
	for i := len(p.Data); i < len(behind); i++ {
		behind[i] = 77
	}
}

// P5.2: from each place of nets of several sizes; those behind move up.
func TestTakeFromEachPlace(t *testing.T) {
	for many := 1; many < 20; many++ {
		for i := range many {
			l := packets(many, 3)
			n := with(t, 3, l...)
			takes(t, "of several", n, i, l[i])
			for node := range 3 {
				tellsTo(t, "behind Take", n, node, wantTo(without(l, i), node)...)
			}
			holds(t, fmt.Sprintf("of %d, behind Take(%d)", many, i), n, without(l, i)...)
		}
	}
}

// P5.2: from the front, from the back and from the middle, until nothing is left.
func TestTakeAll(t *testing.T) {
	for name, place := range map[string]func(int) int{
		"front":  func(int) int { return 0 },
		"back":   func(many int) int { return many - 1 },
		"middle": func(many int) int { return many / 2 },
	} {
		l := packets(50, 4)
		n := with(t, 4, l...)
		for len(l) > 0 {
			i := place(len(l))
			takes(t, name, n, i, l[i])
			l = without(l, i)
			isLen(t, name, n, len(l))
		}
		takesNone(t, name, n, 0)
	}
}

// P5.2: at a place where there is none nothing goes.
func TestTakeOfNone(t *testing.T) {
	for _, many := range []int{0, 1, 2, 10} {
		l := packets(many, 3)
		n := with(t, 3, l...)
		for _, i := range append(farInts(), many, many+1, mostPackets-1, mostPackets) {
			takesNone(t, fmt.Sprint("of ", many), n, i)
		}
		holds(t, "all", n, l...)
	}
	n := with(t, 3, packets(mostPackets, 3)...)
	takesNone(t, "full", n, mostPackets)
	takesNone(t, "full", n, -1)
	takes(t, "full", n, mostPackets-1, packet(mostPackets-1, 3))
	takesNone(t, "no longer full", n, mostPackets-1)
}

// P5.2: of each place one more is behind all others; the first one stays where it is.
func TestTwiceOfEachPlace(t *testing.T) {
	for many := 1; many < 20; many++ {
		for i := range many {
			l := packets(many, 3)
			n := with(t, 3, l...)
			isErr(t, "Twice", n.Twice(i), api.OK)
			want := append(l, l[i])
			for node := range 3 {
				tellsTo(t, "behind Twice", n, node, wantTo(want, node)...)
			}
			holds(t, fmt.Sprintf("of %d, behind Twice(%d)", many, i), n, want...)
		}
	}
}

// P5.2: what came of Twice may come once more, and is behind what was sent ahead of it only.
func TestTwiceAgain(t *testing.T) {
	a, b, c := between(0, 1, 1), between(1, 2, 2), between(2, 0, 3)
	n := with(t, 3, a, b)
	isErr(t, "the first one", n.Twice(0), api.OK)
	isErr(t, "its other one", n.Twice(2), api.OK)
	isErr(t, "Send", n.Send(c), api.OK)
	isErr(t, "the last one", n.Twice(4), api.OK)
	takes(t, "the first one", n, 0, a)
	isErr(t, "the second one", n.Twice(0), api.OK)
	holds(t, "all", n, b, a, a, c, c, b)
}

// P5.2: at a place where there is none nothing comes.
func TestTwiceOfNone(t *testing.T) {
	for _, many := range []int{0, 1, 2, 10} {
		l := packets(many, 3)
		n := with(t, 3, l...)
		for _, i := range append(farInts(), many, many+1, mostPackets-1, mostPackets) {
			isErr(t, fmt.Sprintf("of %d: Twice(%d)", many, i), n.Twice(i), api.ErrRange)
			isLen(t, "Twice of none", n, many)
		}
		holds(t, "all", n, l...)
	}
}

// P5.2: up to 4096 packets there are by Twice, too, not one more; that a place isn't there is told first.
func TestTwiceOfTooMany(t *testing.T) {
	l := packets(mostPackets-2, mostNodes)
	n := with(t, mostNodes, l...)
	isErr(t, "the 4095th", n.Twice(7), api.OK)
	isErr(t, "the 4096th", n.Twice(mostPackets-3), api.OK)
	want := append(l, l[7], l[mostPackets-3])
	for _, i := range []int{0, 7, mostPackets - 2, mostPackets - 1} {
		isErr(t, fmt.Sprint("the 4097th: Twice of ", i), n.Twice(i), api.ErrBig)
	}
	for _, i := range []int{-1, math.MinInt, mostPackets, mostPackets + 1, 1 << 16, 1 << 32, math.MaxInt} {
		isErr(t, fmt.Sprint("the 4097th, of none: Twice of ", i), n.Twice(i), api.ErrRange)
	}
	isErr(t, "the 4097th: Send", n.Send(between(1, 2, 9)), api.ErrBig)
	isLen(t, "full", n, mostPackets)
	takes(t, "full", n, 7, l[7])
	isErr(t, "where one went", n.Twice(mostPackets-2), api.OK)
	isErr(t, "one more", n.Twice(mostPackets-1), api.ErrBig)
	want = without(want, 7)
	holds(t, "all", n, append(want, l[mostPackets-3])...)
}

// P5.2: what is taken shares no bytes with what is left, be it the same packet that comes twice.
func TestTakeIsInNewMemory(t *testing.T) {
	a, b := net.Packet{From: 0, To: 1, Data: []byte("notcher")}, net.Packet{From: 1, To: 0, Data: []byte("log")}
	for first := range 5 {
		n := with(t, 2, a, b)
		isErr(t, "Twice", n.Twice(0), api.OK)
		isErr(t, "Twice of the other one", n.Twice(2), api.OK)
		isErr(t, "Twice of the first one", n.Twice(0), api.OK)
		want := []net.Packet{a, b, a, a, a}
		spoil(takes(t, "the one that is changed", n, first, want[first]))
		holds(t, "all others", n, without(want, first)...)
	}
}

// P5.2: a packet that was taken stays as it is, whatever is sent, and goes, behind it.
func TestWhatWasTakenStays(t *testing.T) {
	n := with(t, 3, packets(10, 3)...)
	got := takes(t, "of ten", n, 4, packet(4, 3))
	for k := range 30 {
		isErr(t, "Send", n.Send(packet(k+100, 3)), api.OK)
		isErr(t, "Twice", n.Twice(k), api.OK)
	}
	n.Clear(0)
	isPacket(t, "behind calls", got, packet(4, 3))
}

// P5.2: how many there are, call by call.
func TestLen(t *testing.T) {
	n := fresh(t, 2)
	isLen(t, "none", n, 0)
	for k := range mostPackets {
		isErr(t, "Send", n.Send(packet(k, 2)), api.OK)
		isLen(t, "Send", n, k+1)
	}
	for k := mostPackets; k > 0; k-- {
		takes(t, "all", n, k-1, packet(k-1, 2))
		isLen(t, "Take", n, k-1)
	}
}

// P5.2: the document's example.
func TestToOfTheExample(t *testing.T) {
	n := with(t, 3, between(0, 1, 1), between(1, 0, 2), between(2, 1, 3))
	tellsTo(t, "the example", n, 1, 0, 2)
	tellsTo(t, "the example", n, 0, 1)
	tellsTo(t, "the example", n, 2)
	holds(t, "all are there yet", n, between(0, 1, 1), between(1, 0, 2), between(2, 1, 3))
}

// mixed are packets among the nodes 0 to 6: 1 gets only, 2 sends only, 3 sends to itself only, 4 does all, 5 has none, 0 and 6 are first and last.
func mixed() []net.Packet {
	return []net.Packet{
		between(2, 1, 1), between(3, 3, 2), between(4, 1, 3), between(2, 4, 4), between(4, 4, 5), between(0, 6, 6),
		between(3, 3, 7), between(6, 0, 8), between(2, 1, 9), between(4, 6, 10), between(0, 4, 11), between(2, 1, 12),
	}
}

// P5.2: the places, whatever a node sends and gets.
func TestTo(t *testing.T) {
	n := with(t, 7, mixed()...)
	for node, want := range [][]int{{7}, {0, 2, 8, 11}, {}, {1, 6}, {3, 4, 10}, {}, {5, 9}} {
		tellsTo(t, "mixed", n, node, want...)
		tellsTo(t, "mixed, once more", n, node, want...)
	}
	for _, node := range append(farInts(), 7, 8, 32) {
		tellsTo(t, "no node", n, node)
	}
	holds(t, "all are there yet", n, mixed()...)
	for node := -1; node < 8; node++ {
		tellsTo(t, "none left", n, node)
	}
}

// P5.2: the places of all packets, where one node gets them all, up to the most.
func TestToOfAll(t *testing.T) {
	for _, many := range []int{1, 2, 100, mostPackets} {
		n := fresh(t, mostNodes)
		var want []int
		for i := range many {
			isErr(t, "Send", n.Send(between(i%31, 31, byte(i))), api.OK)
			want = append(want, i)
		}
		tellsTo(t, "all", n, 31, want...)
		tellsTo(t, "none", n, 30)
	}
}

// P5.2: what To tells is in new memory.
func TestToIsInNewMemory(t *testing.T) {
	n := with(t, 7, mixed()...)
	got := n.To(1)
	for i := range got {
		got[i] = 5
	}
	_ = append(got, 77, 77, 77, 77, 77)
	tellsTo(t, "behind a change", n, 1, 0, 2, 8, 11)
	kept := n.To(1)
	takes(t, "the first one", n, 0, mixed()[0])
	if !slices.Equal(kept, []int{0, 2, 8, 11}) {
		t.Errorf("what was told is %d now", kept)
	}
	tellsTo(t, "behind Take", n, 1, 1, 7, 10)
}

// P5.2: those that a node sent, and those that it should get, are out; all others keep their order.
func TestClear(t *testing.T) {
	for node, want := range []int{3, 4, 4, 2, 5, 0, 3} {
		n := with(t, 7, mixed()...)
		clears(t, "mixed", n, node, want)
		tellsTo(t, "cleared", n, node)
		left := wantClear(mixed(), node)
		for other := range 7 {
			tellsTo(t, "behind Clear", n, other, wantTo(left, other)...)
		}
		clears(t, "once more", n, node, 0)
		isErr(t, "Send", n.Send(between(node, 5, 99)), api.OK)
		holds(t, fmt.Sprint("behind Clear of ", node), n, append(left, between(node, 5, 99))...)
	}
}

// P5.2: of a number that is no node none are out, and it is no node behind that.
func TestClearOfNoNode(t *testing.T) {
	n := with(t, 7, mixed()...)
	for _, node := range append(farInts(), 7, 8, 32) {
		clears(t, "no node", n, node, 0)
		tellsTo(t, "no node", n, node)
		isErr(t, "Send from no node", n.Send(between(node, 0, 1)), api.ErrArg)
		isErr(t, "Send to no node", n.Send(between(0, node, 1)), api.ErrArg)
	}
	holds(t, "all", n, mixed()...)
	for node := -1; node < 8; node++ {
		clears(t, "none left", n, node, 0)
	}
}

// P5.2: all of them, node by node, and of a full net, which has room again then.
func TestClearOfAll(t *testing.T) {
	left := mixed()
	n := with(t, 7, left...)
	for node := range 7 {
		next := wantClear(left, node)
		clears(t, "node by node", n, node, len(left)-len(next))
		left = next
		isLen(t, "node by node", n, len(left))
	}
	isLen(t, "all cleared", n, 0)
	one := with(t, 1, packets(mostPackets, 1)...)
	clears(t, "full", one, 0, mostPackets)
	takesNone(t, "cleared", one, 0)
	for k := range mostPackets {
		isErr(t, "Send", one.Send(packet(k, 1)), api.OK)
	}
	isErr(t, "the 4097th", one.Send(packet(0, 1)), api.ErrBig)
	holds(t, "all", one, packets(mostPackets, 1)...)
}

// P5.2: a full net half of which goes has room for just that many.
func TestClearMakesRoom(t *testing.T) {
	l := packets(mostPackets, 4)
	left := wantClear(l, 3)
	n := with(t, 4, l...)
	clears(t, "full", n, 3, len(l)-len(left))
	for k := range len(l) - len(left) {
		isErr(t, "Send", n.Send(packet(k, 4)), api.OK)
		left = append(left, packet(k, 4))
	}
	isErr(t, "the 4097th", n.Send(packet(0, 4)), api.ErrBig)
	holds(t, "all", n, left...)
}

// P5.1, P5.2: what is told of nil.
func TestNil(t *testing.T) {
	var n *net.Net
	for _, i := range append(farInts(), 0, 1) {
		isErr(t, "Send", n.Send(between(i, 0, 1)), api.ErrArg)
		isErr(t, "Send", n.Send(between(0, i, 1)), api.ErrArg)
		isErr(t, "Twice", n.Twice(i), api.ErrArg)
		takesNone(t, "Take", n, i)
		isLen(t, "Len", n, 0)
		tellsTo(t, "To", n, i)
		clears(t, "Clear", n, i, 0)
	}
	isErr(t, "Send of no bytes", n.Send(net.Packet{}), api.ErrArg)
}

// P5.3: what is taken is what was sent, in its order: calls that look like chance, the same ones each time, against a list.
func TestCallsLikeChance(t *testing.T) {
	for seed := range 60 {
		nodes := 1 + seed*7%mostNodes
		n := fresh(t, nodes)
		var want []net.Packet
		x := uint32(seed)*2654435761 + 1
		chance := func(most int) int {
			x = x*1664525 + 1013904223
			return int(x>>8) % most
		}
		for k := range 600 {
			want = step(t, n, want, k, nodes, chance)
			isLen(t, fmt.Sprintf("seed %d, step %d", seed, k), n, len(want))
		}
		holds(t, fmt.Sprint("seed ", seed), n, want...)
	}
}

// step is a call, chosen by chance, and its answer by the document's words.
func step(t *testing.T, n *net.Net, want []net.Packet, k, nodes int, chance func(int) int) []net.Packet {
	t.Helper()
	i := chance(len(want) + 2)
	node := chance(nodes + 1)
	switch c := chance(100); {
	case c < 50:
		p := net.Packet{From: chance(nodes), To: chance(nodes), Data: dataOf(k)}
		isErr(t, "Send", n.Send(p), api.OK)
		want = append(want, net.Packet{From: p.From, To: p.To, Data: dataOf(k)})
		spoil(p)
	case c < 60 && i < len(want):
		isErr(t, "Twice", n.Twice(i), api.OK)
		want = append(want, want[i])
	case c < 90 && i < len(want):
		spoil(takes(t, "by chance", n, i, want[i]))
		want = without(want, i)
	case c < 60:
		isErr(t, "Twice of none", n.Twice(i), api.ErrRange)
	case c < 90:
		takesNone(t, "by chance", n, i)
	case c < 97:
		tellsTo(t, "by chance", n, node, wantTo(want, node)...)
	default:
		left := wantClear(want, node)
		clears(t, "by chance", n, node, len(want)-len(left))
		want = left
	}
	return want
}
