package disk_test

import (
	"bytes"
	"fmt"
	"math"
	"math/rand"
	"slices"
	"testing"

	"notcher/api"
	"notcher/disk"
)

// The limits, in the document's own numbers.
const (
	size       = 64
	mostBlocks = 65536
)

// farInts are numbers far beside all blocks; some of them would be good ones if they were cut to fewer bits.
func farInts() []int {
	return []int{-1, -2, -64, -65536, 1 << 17, 1<<17 + 1, 1 << 24, 1 << 32, 1<<32 + 1, 1<<48 + 1, math.MinInt, math.MinInt + 1, math.MaxInt - 1, math.MaxInt}
}

// full is a block of one byte.
func full(x byte) []byte { return bytes.Repeat([]byte{x}, size) }

// blockOf is a block that tells k, of which no byte is 0: those of two k that are close to one another differ in each byte, and no two of the first 63001 are the same.
func blockOf(k int) []byte {
	b := make([]byte, size)
	for i := range b {
		b[i] = byte(1 + (k+k/251*(i+1)+i*3)%251)
	}
	return b
}

// laid is a block of whose front so many bytes were written over.
func laid(b, over []byte, many int) []byte { return slices.Concat(over[:many], b[many:]) }

// fresh is a disk of so many blocks.
func fresh(t *testing.T, n int) *disk.Disk {
	t.Helper()
	d, e := disk.New(n)
	if e != api.OK || d == nil {
		t.Fatalf("New(%d): got error %d", n, e)
	}
	return d
}

// stopped is a disk of so many blocks that is down; what waits at it are the blocks of 1, 2 and so on, one a block.
func stopped(t *testing.T, n, waits int) *disk.Disk {
	t.Helper()
	d := fresh(t, n)
	for i := range waits {
		writes(t, d, i, blockOf(i+1))
	}
	d.Stop(0)
	isErr(t, "the Sync at which it stops", d.Sync(), api.ErrDown)
	isDown(t, "stopped", d, true)
	return d
}

func isErr(t *testing.T, what string, got, want api.Errno) {
	t.Helper()
	if got != want {
		t.Errorf("%s: got error %d, want %d", what, got, want)
	}
}

func isDown(t *testing.T, what string, d *disk.Disk, want bool) {
	t.Helper()
	if got := d.Down(); got != want {
		t.Errorf("%s: Down: got %t", what, got)
	}
}

func isWaits(t *testing.T, what string, d *disk.Disk, want int) {
	t.Helper()
	if got := d.Waits(); got != want {
		t.Errorf("%s: Waits: got %d, want %d", what, got, want)
	}
}

func isLen(t *testing.T, what string, d *disk.Disk, want int) {
	t.Helper()
	if got := d.Len(); got != want {
		t.Errorf("%s: Len: got %d, want %d", what, got, want)
	}
}

// writes writes a block, which must be done.
func writes(t *testing.T, d *disk.Disk, i int, b []byte) {
	t.Helper()
	isErr(t, fmt.Sprintf("Write(%d)", i), d.Write(i, b), api.OK)
}

// syncs syncs, which must be done.
func syncs(t *testing.T, d *disk.Disk) {
	t.Helper()
	isErr(t, "Sync", d.Sync(), api.OK)
	isWaits(t, "Sync", d, 0)
}

// reads reads a block, and says what it must be.
func reads(t *testing.T, what string, d *disk.Disk, i int, want []byte) []byte {
	t.Helper()
	b, e := d.Read(i)
	isErr(t, fmt.Sprintf("%s: Read(%d)", what, i), e, api.OK)
	if !bytes.Equal(b, want) {
		t.Errorf("%s: Read(%d): got % d, want % d", what, i, b, want)
	}
	return b
}

// holds says what all blocks are.
func holds(t *testing.T, what string, d *disk.Disk, want ...[]byte) {
	t.Helper()
	isLen(t, what, d, len(want))
	for i, b := range want {
		reads(t, what, d, i, b)
	}
}

// refuses says the error of each call that tells one, of a block and bytes that are right.
func refuses(t *testing.T, what string, d *disk.Disk, i int, want api.Errno) {
	t.Helper()
	isErr(t, fmt.Sprintf("%s: Write(%d)", what, i), d.Write(i, full(9)), want)
	refusesRead(t, what, d, i, want)
	isErr(t, what+": Sync", d.Sync(), want)
}

// refusesRead says the error of Read, beside which there are no bytes.
func refusesRead(t *testing.T, what string, d *disk.Disk, i int, want api.Errno) {
	t.Helper()
	b, e := d.Read(i)
	isErr(t, fmt.Sprintf("%s: Read(%d)", what, i), e, want)
	if len(b) != 0 {
		t.Errorf("%s: Read(%d): got % d beside an error", what, i, b)
	}
}

// spoil changes all that is reached of some bytes.
func spoil(b []byte) {
	b = b[:cap(b)]
	for i := range b {
		b[i] ^= 255
	}
}

// wrongBytes are bytes that are no block, some of which have room for one.
func wrongBytes() [][]byte {
	l := [][]byte{nil, {}, full(1)[:0], full(1)[:1], full(1)[:63], full(1)[1:], make([]byte, 65), make([]byte, 65)[:63], make([]byte, 127), make([]byte, 128), make([]byte, 320), make([]byte, 65536+64)}
	for n := range size {
		l = append(l, make([]byte, n))
	}
	return l
}

// P6.1: how many blocks there may be.
func TestNew(t *testing.T) {
	for _, n := range []int{1, 2, 3, 63, 64, 65, 1000, mostBlocks - 1, mostBlocks} {
		isNew(t, n)
	}
	for _, n := range append(farInts(), 0, -3, mostBlocks+1, mostBlocks+2, 2*mostBlocks) {
		d, e := disk.New(n)
		isErr(t, fmt.Sprint("New of ", n), e, api.ErrArg)
		if d != nil {
			t.Errorf("New of %d: got a disk beside an error", n)
		}
	}
}

// isNew says what a new disk is: blocks of noughts, up, and nothing waits.
func isNew(t *testing.T, n int) {
	t.Helper()
	what := fmt.Sprint("a new one of ", n)
	d := fresh(t, n)
	isLen(t, what, d, n)
	isWaits(t, what, d, 0)
	isDown(t, what, d, false)
	for i := range n {
		reads(t, what, d, i, make([]byte, size))
	}
	d.Crash(nil)
	reads(t, what+", behind Crash", d, n-1, make([]byte, size))
	refusesRead(t, what, d, n, api.ErrRange)
	isErr(t, what+": Write behind the last", d.Write(n, full(1)), api.ErrRange)
	writes(t, d, n-1, full(1))
	reads(t, what, d, n-1, full(1))
}

// P6.1: a new disk doesn't stop.
func TestNewDoesNotStop(t *testing.T) {
	d := fresh(t, 2)
	for k := range 3000 {
		writes(t, d, k%2, blockOf(k))
		if k%3 == 0 {
			syncs(t, d)
		}
	}
	isDown(t, "behind many calls", d, false)
}

// P6.1: disks know nothing of one another.
func TestNewIsItsOwn(t *testing.T) {
	a, b := fresh(t, 3), fresh(t, 2)
	writes(t, a, 1, full(7))
	isWaits(t, "the other one", b, 0)
	isErr(t, "Write of the other one", b.Write(2, full(7)), api.ErrRange)
	writes(t, b, 0, full(8))
	syncs(t, b)
	isWaits(t, "the first one", a, 1)
	b.Stop(0)
	isErr(t, "Sync of the other one", b.Sync(), api.ErrDown)
	syncs(t, a)
	isDown(t, "the first one", a, false)
	isDown(t, "the other one", b, true)
	b.Crash(nil)
	holds(t, "the first one", a, full(0), full(7), full(0))
	holds(t, "the other one", b, full(8), full(0))
}

// P6.1: Len is the same, whatever is done.
func TestLen(t *testing.T) {
	for _, n := range []int{1, 5, mostBlocks} {
		d := fresh(t, n)
		writes(t, d, n-1, full(1))
		writes(t, d, 0, full(2))
		isLen(t, "writes wait", d, n)
		d.Stop(1)
		isLen(t, "before it stops", d, n)
		syncs(t, d)
		isErr(t, "Sync", d.Sync(), api.ErrDown)
		isLen(t, "down", d, n)
		d.Crash([]byte{1})
		isLen(t, "behind Crash", d, n)
	}
}

// P6.1 to P6.3: what is told of nil, whatever else is wrong.
func TestNil(t *testing.T) {
	var d *disk.Disk
	for _, i := range append(farInts(), 0, 1, 65535) {
		refuses(t, "nil", d, i, api.ErrArg)
		for _, b := range wrongBytes() {
			isErr(t, "Write of wrong bytes", d.Write(i, b), api.ErrArg)
		}
		d.Stop(i)
		d.Crash([]byte{1, 2, 3})
		d.Crash(nil)
		isLen(t, "nil", d, 0)
		isWaits(t, "nil", d, 0)
		isDown(t, "nil", d, false)
	}
}

// P6.1: a disk that New didn't make has no blocks; no call of it panics.
func TestWithoutNew(t *testing.T) {
	var d disk.Disk
	for range 2 {
		isLen(t, "without New", &d, 0)
		isErr(t, "without New: Write", d.Write(0, full(1)), api.ErrRange)
		refusesRead(t, "without New", &d, 0, api.ErrRange)
		d.Stop(1)
		d.Sync()
		d.Sync()
		d.Crash([]byte{1})
		isWaits(t, "without New", &d, 0)
	}
}

// P6.1: a block's number is 0 to Len, without Len.
func TestRange(t *testing.T) {
	for _, n := range []int{1, 2, 64, 65, mostBlocks} {
		d := fresh(t, n)
		writes(t, d, 0, full(3))
		writes(t, d, n-1, full(4))
		for _, i := range append(farInts(), n, n+1, n+64, 2*n, n*size) {
			isErr(t, fmt.Sprintf("of %d: Write(%d)", n, i), d.Write(i, full(1)), api.ErrRange)
			refusesRead(t, fmt.Sprint("of ", n), d, i, api.ErrRange)
		}
		isWaits(t, "what was refused", d, 2)
		syncs(t, d)
		if n > 1 {
			reads(t, "the first one", d, 0, full(3))
		}
		reads(t, "the last one", d, n-1, full(4))
	}
}

// P6.1, P6.2: a block that there isn't is told ahead of bytes that are no block.
func TestRangeAheadOfBytes(t *testing.T) {
	d := fresh(t, 3)
	for _, b := range wrongBytes() {
		for _, i := range append(farInts(), 3, 4) {
			isErr(t, fmt.Sprintf("Write(%d) of %d bytes", i, len(b)), d.Write(i, b), api.ErrRange)
		}
		for i := range 3 {
			isErr(t, fmt.Sprintf("Write(%d) of %d bytes", i, len(b)), d.Write(i, b), api.ErrArg)
		}
	}
	isWaits(t, "what was refused", d, 0)
	holds(t, "what was refused", d, full(0), full(0), full(0))
}

// P6.1: while it is down that is told ahead of all that is wrong, and nothing is done.
func TestDown(t *testing.T) {
	d := stopped(t, 4, 3)
	for _, i := range append(farInts(), 0, 1, 3, 4, 5) {
		refuses(t, "down", d, i, api.ErrDown)
		for _, b := range wrongBytes() {
			isErr(t, "down: Write of wrong bytes", d.Write(i, b), api.ErrDown)
		}
		isWaits(t, "down", d, 3)
		isLen(t, "down", d, 4)
		isDown(t, "down", d, true)
	}
	d.Crash([]byte{64, 1, 0, 64, 64})
	isDown(t, "behind Crash", d, false)
	holds(t, "behind Crash", d, blockOf(1), laid(full(0), blockOf(2), 1), full(0), full(0))
}

// P6.2: bytes that are no block are refused, and nothing waits for them.
func TestWriteOfWrongBytes(t *testing.T) {
	d := fresh(t, 2)
	writes(t, d, 0, full(5))
	syncs(t, d)
	writes(t, d, 1, full(6))
	for _, b := range wrongBytes() {
		for i := range 2 {
			isErr(t, fmt.Sprintf("Write(%d) of %d bytes", i, len(b)), d.Write(i, b), api.ErrArg)
			isWaits(t, "what was refused", d, 1)
		}
	}
	holds(t, "what was refused", d, full(5), full(6))
}

// P6.2: a write waits behind all others; the last one to a block is read.
func TestWriteAndRead(t *testing.T) {
	d := fresh(t, 3)
	want := [][]byte{full(0), full(0), full(0)}
	for k, i := range []int{0, 2, 2, 1, 0, 0, 2, 1, 1, 1, 0, 2} {
		want[i] = blockOf(k)
		writes(t, d, i, want[i])
		isWaits(t, "Write", d, k+1)
		holds(t, "Write", d, want...)
		holds(t, "Write, read again", d, want...)
		isWaits(t, "Read", d, k+1)
	}
	syncs(t, d)
	holds(t, "Sync", d, want...)
	writes(t, d, 1, full(0))
	want[1] = full(0)
	holds(t, "noughts", d, want...)
	syncs(t, d)
	holds(t, "noughts, synced", d, want...)
}

// P6.2: the same bytes again wait once more.
func TestWriteOfTheSame(t *testing.T) {
	d := fresh(t, 1)
	for k := range 5 {
		writes(t, d, 0, full(7))
		isWaits(t, "the same", d, k+1)
	}
	syncs(t, d)
	writes(t, d, 0, full(7))
	isWaits(t, "what is there", d, 1)
	holds(t, "the same", d, full(7))
}

// P6.2: writes of all blocks of a disk of some size, read ahead of Sync and behind it.
func TestWriteOfAllBlocks(t *testing.T) {
	for _, n := range []int{1, 2, 63, 64, 65, 255, 256, 257, 1000} {
		d := fresh(t, n)
		var want [][]byte
		for i := range n {
			want = append(want, blockOf(i))
			writes(t, d, i, want[i])
		}
		holds(t, fmt.Sprint("of ", n), d, want...)
		isWaits(t, fmt.Sprint("of ", n), d, n)
		syncs(t, d)
		holds(t, fmt.Sprint("of ", n, ", synced"), d, want...)
	}
}

// P6.2: each block of the greatest disk is one of its own.
func TestBlocksOfTheGreatest(t *testing.T) {
	d := fresh(t, mostBlocks)
	for i := range mostBlocks {
		writes(t, d, i, blockOf(i))
		if i%100 == 99 {
			syncs(t, d)
		}
	}
	syncs(t, d)
	for i := range mostBlocks {
		reads(t, "the greatest", d, i, blockOf(i))
	}
}

// P6.2: all writes that wait are done in their order, and none waits behind that.
func TestSync(t *testing.T) {
	d := fresh(t, 3)
	syncs(t, d)
	holds(t, "nothing waits", d, full(0), full(0), full(0))
	writes(t, d, 1, full(1))
	writes(t, d, 1, full(2))
	writes(t, d, 2, full(3))
	writes(t, d, 1, full(4))
	writes(t, d, 2, full(5))
	syncs(t, d)
	holds(t, "Sync", d, full(0), full(4), full(5))
	syncs(t, d)
	syncs(t, d)
	holds(t, "Sync again", d, full(0), full(4), full(5))
	d.Crash([]byte{64, 64, 64, 64, 64})
	holds(t, "Crash behind Sync", d, full(0), full(4), full(5))
	writes(t, d, 2, full(6))
	syncs(t, d)
	d.Crash(nil)
	holds(t, "all that was synced", d, full(0), full(4), full(6))
}

// P6.2: what was handed in is a copy: the caller may change it, whether it waits or is sure, and it isn't changed.
func TestWriteCopies(t *testing.T) {
	for room := range 4 {
		d := fresh(t, 2)
		whole := append(blockOf(5), make([]byte, room)...)
		handed, kept := whole[:size], bytes.Clone(whole)
		for i := range 2 {
			writes(t, d, i, handed)
			writes(t, d, i, handed)
		}
		d.Stop(1)
		if !bytes.Equal(whole, kept) {
			t.Errorf("what was handed in is % d now", whole)
		}
		spoil(whole)
		holds(t, "changed while it waits", d, blockOf(5), blockOf(5))
		spoil(whole)
		syncs(t, d)
		spoil(whole)
		holds(t, "changed when it is sure", d, blockOf(5), blockOf(5))
		spoil(reads(t, "once more", d, 0, blockOf(5)))
		isErr(t, "the Write at which it stops", d.Write(0, handed), api.ErrDown)
		spoil(whole)
		if !bytes.Equal(whole, kept) {
			t.Errorf("what was handed in is % d now", whole)
		}
	}
}

// P6.2: what was handed in is a copy by Crash, too, be it the whole or a front of it.
func TestCrashCopies(t *testing.T) {
	for _, many := range []byte{1, 63, 64} {
		d := fresh(t, 1)
		b := blockOf(5)
		writes(t, d, 0, b)
		spoil(b)
		d.Crash([]byte{many})
		spoil(b)
		want := laid(full(0), blockOf(5), int(many))
		holds(t, "changed ahead of Crash", d, want)
		spoil(b)
		holds(t, "changed behind Crash", d, want)
	}
}

// P6.2: what Read gives is in new memory, whether it waits or is sure.
func TestReadIsInNewMemory(t *testing.T) {
	d := fresh(t, 2)
	spoil(reads(t, "a new one", d, 0, full(0)))
	holds(t, "changed", d, full(0), full(0))
	writes(t, d, 0, blockOf(1))
	writes(t, d, 1, blockOf(2))
	waiting := reads(t, "while it waits", d, 0, blockOf(1))
	spoil(waiting)
	holds(t, "changed while it waits", d, blockOf(1), blockOf(2))
	syncs(t, d)
	holds(t, "synced", d, blockOf(1), blockOf(2))
	spoil(reads(t, "synced", d, 0, blockOf(1)))
	holds(t, "changed when it is sure", d, blockOf(1), blockOf(2))
	one, other := reads(t, "one", d, 0, blockOf(1)), reads(t, "other", d, 0, blockOf(1))
	spoil(one)
	if !bytes.Equal(other, blockOf(1)) {
		t.Errorf("two answers share bytes")
	}
	writes(t, d, 0, blockOf(3))
	syncs(t, d)
	if !bytes.Equal(other, blockOf(1)) {
		t.Errorf("what was read is % d now", other)
	}
	d.Crash(nil)
	holds(t, "behind Crash", d, blockOf(3), blockOf(2))
}

// P6.2: what was read stays as it is, whatever is written, synced and lost behind it.
func TestWhatWasReadStays(t *testing.T) {
	d := fresh(t, 1)
	writes(t, d, 0, blockOf(1))
	a := reads(t, "it waits", d, 0, blockOf(1))
	writes(t, d, 0, blockOf(2))
	b := reads(t, "the second one", d, 0, blockOf(2))
	syncs(t, d)
	c := reads(t, "it is sure", d, 0, blockOf(2))
	writes(t, d, 0, blockOf(3))
	d.Crash([]byte{30})
	writes(t, d, 0, blockOf(4))
	syncs(t, d)
	for k, got := range [][]byte{a, b, c} {
		if want := blockOf(min(k+1, 2)); !bytes.Equal(got, want) {
			t.Errorf("what was read is % d now, want % d", got, want)
		}
	}
}

// P6.2, P6.3: of calls by turns the one behind so many others is the one at which it stops; nothing is done at it.
func TestStop(t *testing.T) {
	for after := range 12 {
		for turn := range 4 {
			d := fresh(t, 2)
			want := [][]byte{full(0), full(0)}
			sure, waits := slices.Clone(want), 0
			d.Stop(after)
			for k := range after {
				isDown(t, "before it stops", d, false)
				if turn > 0 && k%turn == turn-1 {
					syncs(t, d)
					sure, waits = slices.Clone(want), 0
					continue
				}
				want[k%2] = blockOf(k)
				writes(t, d, k%2, want[k%2])
				waits++
			}
			holds(t, "before it stops", d, want...)
			stopsNow(t, d, after%2 == 0, waits)
			d.Crash(nil)
			holds(t, fmt.Sprintf("Stop(%d), by turns of %d", after, turn), d, sure...)
		}
	}
}

// stopsNow makes the next call that counts, at which it must stop.
func stopsNow(t *testing.T, d *disk.Disk, byWrite bool, waits int) {
	t.Helper()
	isDown(t, "before the last call", d, false)
	if byWrite {
		isErr(t, "the Write at which it stops", d.Write(0, full(99)), api.ErrDown)
	} else {
		isErr(t, "the Sync at which it stops", d.Sync(), api.ErrDown)
	}
	isDown(t, "behind the last call", d, true)
	isWaits(t, "behind the last call", d, waits)
	refuses(t, "down", d, 0, api.ErrDown)
}

// P6.2: the Write at which it stops waits for nothing, and the Sync does nothing: Crash has just what waited ahead.
func TestNothingIsDoneWhereItStops(t *testing.T) {
	for _, byWrite := range []bool{false, true} {
		d := fresh(t, 2)
		writes(t, d, 0, blockOf(1))
		syncs(t, d)
		writes(t, d, 0, blockOf(2))
		writes(t, d, 0, blockOf(3))
		d.Stop(0)
		stopsNow(t, d, byWrite, 2)
		d.Crash([]byte{20, 10, 64, 64})
		holds(t, "behind Crash", d, laid(laid(blockOf(1), blockOf(2), 20), blockOf(3), 10), full(0))
		isWaits(t, "behind Crash", d, 0)
	}
}

// P6.2: a Sync with nothing that waits counts; calls that are refused, and those that aren't Write and Sync, don't.
func TestWhatCounts(t *testing.T) {
	for after := range 5 {
		for _, byWrite := range []bool{false, true} {
			d := fresh(t, 2)
			d.Stop(after)
			for range after {
				noneCounts(t, d)
				syncs(t, d)
			}
			noneCounts(t, d)
			stopsNow(t, d, byWrite, 0)
		}
	}
}

// noneCounts makes all calls that don't count, on a disk of two blocks that is up.
func noneCounts(t *testing.T, d *disk.Disk) {
	t.Helper()
	for _, b := range wrongBytes() {
		isErr(t, "wrong bytes", d.Write(1, b), api.ErrArg)
		isErr(t, "wrong block and bytes", d.Write(2, b), api.ErrRange)
	}
	for _, i := range append(farInts(), 2) {
		isErr(t, "wrong block", d.Write(i, full(1)), api.ErrRange)
		refusesRead(t, "wrong block", d, i, api.ErrRange)
	}
	holds(t, "calls that don't count", d, full(0), full(0))
	isWaits(t, "calls that don't count", d, 0)
	isDown(t, "calls that don't count", d, false)
}

// P6.3: below 0 it doesn't stop, and a Stop ahead is forgotten.
func TestStopBelowNone(t *testing.T) {
	for _, after := range []int{-1, -2, -64, -1 << 32, math.MinInt + 1, math.MinInt} {
		for ahead := range 3 {
			d := fresh(t, 1)
			d.Stop(ahead)
			d.Stop(after)
			for k := range 200 {
				writes(t, d, 0, blockOf(k))
				syncs(t, d)
			}
			isDown(t, fmt.Sprint("Stop of ", after), d, false)
		}
	}
}

// P6.3: far ahead it doesn't stop yet.
func TestStopFarAhead(t *testing.T) {
	for _, after := range []int{400, 1 << 8, 1 << 16, 1 << 31, 1 << 32, 1<<32 + 1, math.MaxInt - 1, math.MaxInt} {
		d := fresh(t, 1)
		d.Stop(after)
		for k := range min(after, 300) {
			writes(t, d, 0, blockOf(k))
		}
		isDown(t, fmt.Sprint("Stop of ", after), d, false)
	}
	d := fresh(t, 1)
	d.Stop(mostBlocks + 1)
	for range mostBlocks + 1 {
		syncs(t, d)
	}
	stopsNow(t, d, true, 0)
}

// P6.3: the last Stop holds, and counts from where it is told.
func TestStopAnew(t *testing.T) {
	for _, c := range [][3]int{{3, 1, 0}, {3, 2, 3}, {2, 2, 1}, {0, 0, 4}, {-1, 5, 2}, {9, 0, 0}, {1, 1, 1}} {
		first, done, then := c[0], c[1], c[2]
		d := fresh(t, 1)
		d.Stop(first)
		for range done {
			writes(t, d, 0, full(1))
		}
		d.Stop(then)
		for range then {
			writes(t, d, 0, full(2))
		}
		stopsNow(t, d, true, done+then)
	}
}

// P6.3: while it is down Stop lets it stay so, and behind Crash it doesn't stop.
func TestStopWhileDown(t *testing.T) {
	for _, after := range []int{-1, 0, 1, 2, 5, math.MaxInt, math.MinInt} {
		d := stopped(t, 2, 1)
		d.Stop(after)
		isDown(t, "Stop while down", d, true)
		refuses(t, "Stop while down", d, 0, api.ErrDown)
		d.Stop(after)
		d.Crash(nil)
		staysUp(t, d)
	}
}

// P6.3: behind Crash it doesn't stop, be it up or down ahead.
func TestCrashForgetsStop(t *testing.T) {
	for after := -1; after < 6; after++ {
		d := fresh(t, 2)
		d.Stop(after)
		d.Crash([]byte{1})
		staysUp(t, d)
		d.Stop(max(after, 0))
		for range max(after, 0) {
			syncs(t, d)
		}
		stopsNow(t, d, false, 0)
		d.Crash(nil)
		staysUp(t, d)
		d.Stop(0)
		stopsNow(t, d, true, 0)
	}
}

// staysUp says that a disk of two blocks, of which nothing waits, is up, and doesn't stop soon.
func staysUp(t *testing.T, d *disk.Disk) {
	t.Helper()
	isDown(t, "behind Crash", d, false)
	isWaits(t, "behind Crash", d, 0)
	for k := range 10 {
		writes(t, d, k%2, blockOf(k))
		syncs(t, d)
	}
	holds(t, "behind Crash", d, blockOf(8), blockOf(9))
	isDown(t, "behind calls", d, false)
}

// P6.3: how many wait, call by call.
func TestWaits(t *testing.T) {
	d := fresh(t, 2)
	for k := range 300 {
		isWaits(t, "writes", d, k)
		writes(t, d, k%2, full(1))
	}
	syncs(t, d)
	writes(t, d, 0, full(2))
	isWaits(t, "behind Sync", d, 1)
	d.Crash([]byte{64})
	isWaits(t, "behind Crash", d, 0)
	writes(t, d, 0, full(2))
	isWaits(t, "a write", d, 1)
	d.Stop(0)
	stopsNow(t, d, true, 1)
	d.Crash([]byte{64})
	isWaits(t, "behind Crash", d, 0)
}

// P6.3: the document's example, and each byte of a pick: by 65, so many bytes are of the write.
func TestCrashOfEachByte(t *testing.T) {
	for pick := range 256 {
		for _, down := range []bool{false, true} {
			d := fresh(t, 2)
			writes(t, d, 1, full(1))
			syncs(t, d)
			writes(t, d, 1, full(2))
			if down {
				d.Stop(0)
				stopsNow(t, d, false, 1)
			}
			d.Crash([]byte{byte(pick)})
			isDown(t, "behind Crash", d, false)
			isWaits(t, "behind Crash", d, 0)
			want := laid(full(1), full(2), pick%65)
			holds(t, fmt.Sprint("Crash of ", pick), d, full(0), want)
			syncs(t, d)
			holds(t, fmt.Sprint("Crash of ", pick, ", synced"), d, full(0), want)
		}
	}
	d := fresh(t, 1)
	writes(t, d, 0, blockOf(3))
	d.Crash([]byte{5})
	holds(t, "the example", d, append(blockOf(3)[:5], make([]byte, 59)...))
}

// P6.3: several writes to one block: each has its own byte of the pick, and the later one is laid over the earlier one.
func TestCrashOfOneBlock(t *testing.T) {
	picks := []byte{0, 1, 32, 63, 64, 65, 66, 129, 130, 255}
	for _, a := range picks {
		for _, b := range picks {
			for _, c := range picks {
				d := fresh(t, 1)
				writes(t, d, 0, blockOf(1))
				syncs(t, d)
				want := blockOf(1)
				for k, pick := range []byte{a, b, c} {
					writes(t, d, 0, blockOf(k+2))
					want = laid(want, blockOf(k+2), int(pick)%65)
				}
				d.Crash([]byte{a, b, c})
				holds(t, fmt.Sprintf("Crash of %d %d %d", a, b, c), d, want)
			}
		}
	}
}

// P6.3: several writes to several blocks, by turns: the bytes of the pick go by the order of the writes, not by the blocks.
func TestCrashOfSeveralBlocks(t *testing.T) {
	d := fresh(t, 4)
	for i := range 4 {
		writes(t, d, i, full(byte(i+1)))
	}
	syncs(t, d)
	for k, i := range []int{3, 0, 2, 0, 3, 2} {
		writes(t, d, i, full(byte(10+k)))
	}
	d.Crash([]byte{64, 40, 10, 20, 70, 0})
	holds(t, "several blocks", d,
		laid(laid(full(1), full(11), 40), full(13), 20),
		full(2),
		laid(full(3), full(12), 10),
		laid(full(10), full(14), 5))
}

// P6.3: of a pick that is too short the writes behind it leave nothing; of one that is too long the rest is for none.
func TestCrashOfPicksOfAnySize(t *testing.T) {
	whole := []byte{64, 129, 33, 194, 7, 64, 64, 64}
	for waits := range 6 {
		for n := range len(whole) + 1 {
			d := fresh(t, 6)
			for i := range waits {
				writes(t, d, i, blockOf(i))
			}
			d.Crash(whole[:n])
			for i := range 6 {
				many := 0
				if i < min(waits, n) {
					many = int(whole[i]) % 65
				}
				reads(t, fmt.Sprintf("%d wait, Crash of %d bytes", waits, n), d, i, laid(full(0), blockOf(i), many))
			}
			isWaits(t, "behind Crash", d, 0)
			writes(t, d, 5, full(1))
			d.Crash(nil)
			reads(t, "a pick ahead is forgotten", d, 5, full(0))
		}
	}
}

// P6.3: of a pick of no bytes, and of nil, no write leaves anything.
func TestCrashOfNoPick(t *testing.T) {
	for _, pick := range [][]byte{nil, {}, full(64)[:0]} {
		d := fresh(t, 2)
		writes(t, d, 0, full(1))
		syncs(t, d)
		writes(t, d, 0, full(2))
		writes(t, d, 1, full(3))
		holds(t, "ahead of Crash", d, full(2), full(3))
		d.Crash(pick)
		holds(t, "behind Crash", d, full(1), full(0))
		d.Crash(pick)
		holds(t, "behind Crash again", d, full(1), full(0))
	}
}

// P6.3: a pick is not changed, and not kept.
func TestCrashLeavesThePick(t *testing.T) {
	d := fresh(t, 2)
	pick := []byte{255, 65, 64, 3, 9}
	kept := bytes.Clone(pick)
	for k := range 3 {
		writes(t, d, k%2, blockOf(k))
	}
	d.Crash(pick[:3])
	if !bytes.Equal(pick, kept) {
		t.Errorf("the pick is % d now", pick)
	}
	want := [][]byte{blockOf(2), full(0)}
	holds(t, "behind Crash", d, want...)
	spoil(pick)
	holds(t, "behind a change of the pick", d, want...)
}

// P6.3: two crashes, one behind the other: what the first one left is sure, what it lost is gone.
func TestCrashTwice(t *testing.T) {
	d := fresh(t, 2)
	writes(t, d, 0, blockOf(1))
	writes(t, d, 1, blockOf(2))
	d.Crash([]byte{10, 0})
	d.Crash([]byte{64, 64})
	one := laid(full(0), blockOf(1), 10)
	holds(t, "two crashes", d, one, full(0))
	writes(t, d, 0, blockOf(3))
	reads(t, "it waits", d, 0, blockOf(3))
	d.Stop(0)
	stopsNow(t, d, true, 1)
	d.Crash([]byte{70})
	d.Crash(nil)
	holds(t, "two more", d, laid(one, blockOf(3), 5), full(0))
	writes(t, d, 1, blockOf(4))
	d.Crash([]byte{64})
	writes(t, d, 1, blockOf(5))
	d.Crash([]byte{1})
	holds(t, "a write between", d, laid(one, blockOf(3), 5), laid(blockOf(4), blockOf(5), 1))
}

// P6.2, P6.3: many writes that wait for one Sync, or for one crash: more than there may be blocks.
func TestManyWrites(t *testing.T) {
	const many = mostBlocks + 500
	d := fresh(t, 7)
	want := make([][]byte, 7)
	for k := range many {
		want[k%7] = blockOf(k)
		writes(t, d, k%7, want[k%7])
	}
	isWaits(t, "many writes", d, many)
	syncs(t, d)
	holds(t, "many writes, synced", d, want...)
	var pick []byte
	for k := range many {
		writes(t, d, k%7, blockOf(k+1))
		if k < many-100 {
			pick = append(pick, byte(k*31))
			want[k%7] = laid(want[k%7], blockOf(k+1), int(pick[k])%65)
		}
	}
	isWaits(t, "many writes", d, many)
	d.Crash(pick)
	holds(t, "many writes, Crash", d, want...)
}

// P6.4: what was synced is there behind a crash, but for blocks to which writes waited.
func TestSyncedIsThereBehindCrash(t *testing.T) {
	for waits := range 1 << 5 {
		for _, pick := range [][]byte{nil, {64, 64, 64, 64, 64}, {3, 0, 65, 70, 255}} {
			d := fresh(t, 5)
			for i := range 5 {
				writes(t, d, i, blockOf(i))
			}
			syncs(t, d)
			for i := range 5 {
				if waits>>i&1 == 1 {
					writes(t, d, i, blockOf(i+10))
				}
			}
			d.Crash(pick)
			for i := range 5 {
				if waits>>i&1 == 0 {
					reads(t, "synced", d, i, blockOf(i))
				}
			}
		}
	}
}

// model is a disk by the document's words: what is written there is as long as its writes wait, and calls that count are counted from its start.
type model struct {
	sure           [][]byte
	at             []int
	waits          [][]byte
	counted, stops int
	isDown         bool
}

// read is what Read must answer.
func (m *model) read(i int) []byte {
	b := m.sure[i]
	for k, at := range m.at {
		if at == i {
			b = m.waits[k]
		}
	}
	return b
}

// counts is what a call that would be done must answer.
func (m *model) counts() api.Errno {
	if m.isDown || m.counted == m.stops {
		m.isDown = true
		return api.ErrDown
	}
	m.counted++
	return api.OK
}

// settle lets so many bytes of each write be sure.
func (m *model) settle(many func(k int) int) {
	for k, at := range m.at {
		m.sure[at] = laid(m.sure[at], m.waits[k], many(k))
	}
	m.at, m.waits = nil, nil
}

// P6.1 to P6.4: calls by chance, held against the document's words.
func TestByChance(t *testing.T) {
	for seed := range 300 {
		r := rand.New(rand.NewSource(int64(seed)))
		n := 1 + r.Intn(6)
		d := fresh(t, n)
		m := &model{stops: -1}
		for range n {
			m.sure = append(m.sure, full(0))
		}
		for step := range 150 {
			chance(t, r, d, m)
			isLen(t, "by chance", d, n)
			isWaits(t, "by chance", d, len(m.at))
			isDown(t, "by chance", d, m.isDown)
			if t.Failed() {
				t.Fatalf("seed %d, step %d", seed, step)
			}
		}
	}
}

// chance makes one call, of both.
func chance(t *testing.T, r *rand.Rand, d *disk.Disk, m *model) {
	t.Helper()
	n := len(m.sure)
	i, b := r.Intn(n), blockOf(r.Intn(1000))
	switch c := r.Intn(100); {
	case c < 45:
		e := m.counts()
		isErr(t, "Write", d.Write(i, b), e)
		if e == api.OK {
			m.at, m.waits = append(m.at, i), append(m.waits, bytes.Clone(b))
		}
		spoil(b)
	case c < 50 && !m.isDown:
		isErr(t, "Write of no block", d.Write(n+i, b), api.ErrRange)
		isErr(t, "Write of wrong bytes", d.Write(i, b[:i]), api.ErrArg)
	case c < 75 && !m.isDown:
		spoil(reads(t, "by chance", d, i, m.read(i)))
	case c < 75:
		refuses(t, "by chance", d, i-1, api.ErrDown)
	case c < 87:
		e := m.counts()
		isErr(t, "Sync", d.Sync(), e)
		if e == api.OK {
			m.settle(func(int) int { return size })
		}
	case c < 92:
		after := r.Intn(12) - 2
		d.Stop(after)
		m.stops = m.counted + after
		if after < 0 {
			m.stops = -1
		}
	default:
		pick := make([]byte, r.Intn(12))
		r.Read(pick)
		d.Crash(pick)
		m.settle(func(k int) int {
			if k < len(pick) {
				return int(pick[k]) % 65
			}
			return 0
		})
		m.isDown, m.stops = false, -1
	}
}
