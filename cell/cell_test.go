package cell_test

import (
	"bytes"
	"fmt"
	"hash/crc32"
	"math"
	"math/rand"
	"slices"
	"strings"
	"testing"

	"notcher/api"
	"notcher/cell"
	"notcher/disk"
)

// The limits, in the document's own numbers.
const (
	size = 64
	most = 43
	top  = uint64(18446744073709551615)
)

// tears are how many bytes of a write a crash leaves, at the edges of what a block's fields are.
func tears() []byte { return []byte{0, 1, 7, 8, 9, 10, 51, 52, 53, 55, 56, 57, 62, 63, 64} }

// farInts are numbers far beside all places; some of them would be good ones if they were cut to fewer bits.
func farInts() []int {
	return []int{-1, -2, -64, -65536, 1 << 16, 1<<16 + 1, 1 << 24, 1 << 32, 1<<32 + 1, 1<<48 + 1, math.MinInt, math.MinInt + 1, math.MaxInt - 1, math.MaxInt}
}

// someBytes are n bytes that look like chance, the same ones each time for n and k; none is 0.
func someBytes(n, k int) []byte {
	b := make([]byte, n)
	x := uint32(n*1009 + k + 1)
	for i := range b {
		x = x*1664525 + 1013904223
		b[i] = byte(x>>24) | 1
	}
	return b
}

// fields are what a block tells, as the document words them.
type fields struct {
	turn  uint64
	bytes int
	data  []byte // with the noughts, or fewer
	again uint64 // the turn once more
}

// of are the fields of a block as Set writes it.
func of(turn uint64, data []byte) fields {
	return fields{turn: turn, bytes: len(data), data: data, again: turn}
}

// eight is a number as eight bytes, the highest first.
func eight(x uint64) []byte {
	b := make([]byte, 8)
	for i := 7; i >= 0; i-- {
		b[i] = byte(x % 256)
		x /= 256
	}
	return b
}

// number is eight bytes as a number.
func number(b []byte) uint64 {
	x := uint64(0)
	for _, y := range b[:8] {
		x = x*256 + uint64(y)
	}
	return x
}

// sealed is bytes and their sum, by the library's CRC-32C.
func sealed(b []byte) []byte {
	x := crc32.Checksum(b, crc32.MakeTable(crc32.Castagnoli))
	return append(bytes.Clone(b), byte(x>>24), byte(x>>16), byte(x>>8), byte(x))
}

// block is these fields as bytes, with a right sum.
func (f fields) block() []byte {
	b := append(eight(f.turn), byte(f.bytes))
	b = append(b, f.data...)
	b = append(b, make([]byte, 52-len(b))...)
	return append(sealed(b), eight(f.again)...)
}

// spoiled is a block whose byte at a place is another one.
func spoiled(b []byte, at int, by byte) []byte {
	c := bytes.Clone(b)
	c[at] ^= by
	return c
}

// torn is what stands there if of a write so many bytes stay.
func torn(was, is []byte, n int) []byte { return append(bytes.Clone(is[:n]), was[n:]...) }

// right tells what the document's words 'a block is right' tell.
func right(b []byte) bool {
	return bytes.Equal(sealed(b[:52]), b[:56]) && bytes.Equal(b[:8], b[56:]) && b[8] <= 43 && number(b) != 0
}

// told is what Open must find in two blocks: the bytes, their turn, which block tells (-1: none), and the greatest number in front or at the end of either.
func told(blocks [][]byte) (data []byte, turn uint64, which int, greatest uint64) {
	which = -1
	for i, b := range blocks[:2] {
		greatest = max(greatest, number(b), number(b[56:]))
		if right(b) && number(b) > turn {
			data, turn, which = b[9:9+int(b[8])], number(b), i
		}
	}
	return data, turn, which, greatest
}

// fresh is a disk of so many blocks.
func fresh(t *testing.T, n int) *disk.Disk {
	t.Helper()
	d, e := disk.New(n)
	if e != api.OK {
		t.Fatalf("disk.New(%d): got error %d", n, e)
	}
	return d
}

// laid is a disk of these blocks, all sure.
func laid(t *testing.T, blocks ...[]byte) *disk.Disk {
	t.Helper()
	d := fresh(t, len(blocks))
	for i, b := range blocks {
		isErr(t, "disk.Write", d.Write(i, b), api.OK)
	}
	isErr(t, "disk.Sync", d.Sync(), api.OK)
	return d
}

// down is a disk of so many blocks that stopped.
func down(t *testing.T, n int) *disk.Disk {
	t.Helper()
	d := fresh(t, n)
	d.Stop(0)
	isErr(t, "disk.Sync", d.Sync(), api.ErrDown)
	return d
}

// blocksAt are n blocks of a disk from a place on.
func blocksAt(t *testing.T, d *disk.Disk, from, n int) [][]byte {
	t.Helper()
	var l [][]byte
	for i := range n {
		b, e := d.Read(from + i)
		isErr(t, "disk.Read", e, api.OK)
		l = append(l, b)
	}
	return l
}

// nought is a block of noughts.
func nought() []byte { return make([]byte, size) }

// open opens a cell, which must go.
func open(t *testing.T, d *disk.Disk, at int) *cell.Cell {
	t.Helper()
	c, e := cell.Open(d, at)
	if e != api.OK || c == nil {
		t.Fatalf("Open at %d: got %v, error %d", at, c, e)
	}
	return c
}

// set sets a cell, which must go.
func set(t *testing.T, c *cell.Cell, data []byte) {
	t.Helper()
	isErr(t, "Set", c.Set(data), api.OK)
}

// isErr wants an error.
func isErr(t *testing.T, what string, got, want api.Errno) {
	t.Helper()
	if got != want {
		t.Errorf("%s: got error %d, want %d", what, got, want)
	}
}

// isCell wants a cell of these bytes, and of this turn.
func isCell(t *testing.T, what string, c *cell.Cell, data []byte, turn uint64) {
	t.Helper()
	if got := c.Get(); !bytes.Equal(got, data) {
		t.Errorf("%s: Get: got %v, want %v", what, got, data)
	}
	if got := c.Turn(); got != turn {
		t.Errorf("%s: Turn: got %d, want %d", what, got, turn)
	}
}

// isBlocks wants these blocks on a disk, from a place on.
func isBlocks(t *testing.T, what string, d *disk.Disk, from int, want ...[]byte) {
	t.Helper()
	for i, got := range blocksAt(t, d, from, len(want)) {
		if !bytes.Equal(got, want[i]) {
			t.Errorf("%s: block %d: got %v, want %v", what, from+i, got, want[i])
		}
	}
}

// isNone wants no cell, and an error.
func isNone(t *testing.T, what string, c *cell.Cell, got, want api.Errno) {
	t.Helper()
	if c != nil {
		t.Errorf("%s: got a cell, want none", what)
	}
	isErr(t, what, got, want)
}

// spare is the block of both to which a Set goes.
func spare(which int) int {
	if which == 0 {
		return 1
	}
	return 0
}

// isFound opens a cell on two blocks, wants what the document's words tell of them, and that a Set goes as they tell.
func isFound(t *testing.T, what string, blocks ...[]byte) {
	t.Helper()
	data, turn, which, greatest := told(blocks)
	d := laid(t, blocks...)
	c := open(t, d, 0)
	isCell(t, what, c, data, turn)
	isBlocks(t, what, d, 0, blocks...)
	if greatest == top {
		isErr(t, what+": Set", c.Set([]byte("new")), api.ErrWorn)
		isCell(t, what+", worn", c, data, turn)
		isBlocks(t, what+", worn", d, 0, blocks...)
		return
	}
	want := slices.Clone(blocks)
	want[spare(which)] = of(greatest+1, []byte("new")).block()
	set(t, c, []byte("new"))
	isCell(t, what+", set", c, []byte("new"), greatest+1)
	isBlocks(t, what+", set", d, 0, want...)
}

// The chapter's example, and its number.
func TestExample(t *testing.T) {
	if cell.Most != 43 {
		t.Errorf("Most: got %d, want 43", cell.Most)
	}
	d := fresh(t, 4)
	c := open(t, d, 1)
	set(t, c, []byte("ab"))
	got := blocksAt(t, d, 1, 1)[0]
	if want := []byte{0, 0, 0, 0, 0, 0, 0, 1, 2, 97, 98}; !bytes.Equal(got[:11], want) {
		t.Errorf("got %v, want it to begin with %v", got, want)
	}
	want := append([]byte{0, 0, 0, 0, 0, 0, 0, 1, 2, 97, 98}, make([]byte, 41)...)
	want = append(sealed(want), 0, 0, 0, 0, 0, 0, 0, 1)
	if !bytes.Equal(got, want) {
		t.Errorf("got %v, want %v", got, want)
	}
	isBlocks(t, "the others", d, 2, nought(), nought())
	isBlocks(t, "the one ahead", d, 0, nought())
}

// P8.1: a place at which there are no two blocks is ErrArg.
func TestOpenArg(t *testing.T) {
	for n := 1; n <= 4; n++ {
		d := fresh(t, n)
		for at := -3; at <= n+2; at++ {
			c, e := cell.Open(d, at)
			what := fmt.Sprintf("Open at %d of %d blocks", at, n)
			if at >= 0 && at+1 < n {
				isErr(t, what, e, api.OK)
				isCell(t, what, c, nil, 0)
				continue
			}
			isNone(t, what, c, e, api.ErrArg)
		}
		for _, at := range farInts() {
			c, e := cell.Open(d, at)
			isNone(t, fmt.Sprintf("Open at %d of %d blocks", at, n), c, e, api.ErrArg)
		}
	}
	for _, at := range append(farInts(), 0, 1, 2) {
		c, e := cell.Open(nil, at)
		isNone(t, fmt.Sprintf("Open of nil at %d", at), c, e, api.ErrArg)
		c, e = cell.Open(&disk.Disk{}, at)
		isNone(t, fmt.Sprintf("Open of no blocks at %d", at), c, e, api.ErrArg)
	}
}

// P8.1: the greatest disk has cells up to its last two blocks.
func TestOpenGreatest(t *testing.T) {
	d := fresh(t, 65536)
	c := open(t, d, 65534)
	set(t, c, []byte("one"))
	set(t, c, []byte("two"))
	isBlocks(t, "the last two", d, 65533, nought(), of(1, []byte("one")).block(), of(2, []byte("two")).block())
	isCell(t, "opened again", open(t, d, 65534), []byte("two"), 2)
	c, e := cell.Open(d, 65535)
	isNone(t, "Open at the last one", c, e, api.ErrArg)
}

// P8.1: a disk that is down is ErrDown, unless there are no two blocks; once it is up, it may be opened.
func TestOpenDown(t *testing.T) {
	d := down(t, 3)
	for at := -2; at <= 5; at++ {
		want := api.ErrArg
		if at == 0 || at == 1 {
			want = api.ErrDown
		}
		c, e := cell.Open(d, at)
		isNone(t, fmt.Sprintf("Open at %d", at), c, e, want)
	}
	d.Crash(nil)
	isCell(t, "up again", open(t, d, 1), nil, 0)
}

// P8.1: Open neither writes nor syncs.
func TestOpenReadsOnly(t *testing.T) {
	first, second := of(7, []byte("seven")).block(), of(8, []byte("eight")).block()
	d := laid(t, first, second, nought())
	isErr(t, "disk.Write", d.Write(2, first), api.OK)
	d.Stop(0)
	isCell(t, "opened", open(t, d, 0), []byte("eight"), 8)
	if d.Down() || d.Waits() != 1 {
		t.Errorf("got down %v, and %d writes that wait", d.Down(), d.Waits())
	}
	isBlocks(t, "opened", d, 0, first, second)
}

// P8.1: a cell that was never set has nothing, and turn 0.
func TestNeverSet(t *testing.T) {
	d := fresh(t, 2)
	c := open(t, d, 0)
	for range 2 {
		isCell(t, "never set", c, nil, 0)
	}
	isCell(t, "opened again", open(t, d, 0), nil, 0)
	isCell(t, "opened and no more", new(cell.Cell), nil, 0)
}

// P8.1: of two right blocks the one of the greater turn tells, wherever it stands, and however the turns are written.
func TestGreaterTurnTells(t *testing.T) {
	turns := []uint64{1, 2, 3, 127, 128, 255, 256, 257, 511, 512, 65535, 65536, 1<<24 - 1, 1 << 24, 1<<31 - 1, 1 << 31, 1<<32 - 1, 1 << 32, 1<<32 + 1, 1<<40 + 2, 1<<48 + 1, 1 << 56, 1<<63 - 1, 1 << 63, 1<<63 + 1, top - 1, top}
	for _, x := range turns {
		for _, y := range turns {
			first, second := of(x, []byte("first")).block(), of(y, []byte("second")).block()
			what := fmt.Sprintf("turns %d and %d", x, y)
			c := open(t, laid(t, first, second), 0)
			if y > x {
				isCell(t, what, c, []byte("second"), y)
			} else {
				isCell(t, what, c, []byte("first"), x)
			}
			isFound(t, what, first, second)
		}
		isFound(t, fmt.Sprintf("turn %d alone", x), of(x, []byte("it")).block(), nought())
		isFound(t, fmt.Sprintf("turn %d alone, behind", x), nought(), of(x, []byte("it")).block())
	}
}

// P8.1: of alike turns the first block tells, and a Set goes to the second one.
func TestAlikeTurns(t *testing.T) {
	first, second := of(5, []byte("first")).block(), of(5, []byte("second")).block()
	d := laid(t, first, second)
	c := open(t, d, 0)
	isCell(t, "alike", c, []byte("first"), 5)
	set(t, c, []byte("next"))
	isBlocks(t, "set", d, 0, first, of(6, []byte("next")).block())
}

// P8.1: a block has any number of bytes up to 43, any bytes, and right ones are found whatever stands behind those that it tells.
func TestSizes(t *testing.T) {
	for n := range most + 1 {
		data := someBytes(n, 3)
		full := of(4, data)
		isFound(t, fmt.Sprintf("%d bytes", n), full.block(), nought())
		isCell(t, fmt.Sprintf("%d bytes, behind", n), open(t, laid(t, nought(), full.block()), 0), data, 4)
		full.data = append(bytes.Clone(data), someBytes(most-n, 9)...) // no noughts behind
		isFound(t, fmt.Sprintf("%d bytes, and others behind", n), full.block(), of(3, []byte("old")).block())
		isCell(t, fmt.Sprintf("%d bytes, and others behind", n), open(t, laid(t, full.block(), nought()), 0), data, 4)
		isCell(t, fmt.Sprintf("%d noughts", n), open(t, laid(t, of(1, make([]byte, n)).block(), nought()), 0), make([]byte, n), 1)
	}
}

// P8.1: a block that tells more than 43 bytes isn't right.
func TestTooManyBytes(t *testing.T) {
	for n := most + 1; n <= 255; n++ {
		f := fields{turn: 9, bytes: n, data: someBytes(most, 1), again: 9}
		old := of(8, []byte("old")).block()
		what := fmt.Sprintf("%d bytes", n)
		isCell(t, what, open(t, laid(t, f.block(), old), 0), []byte("old"), 8)
		isFound(t, what, f.block(), old)
		isFound(t, what+", behind", old, f.block())
		isFound(t, what+", alone", f.block(), nought())
	}
}

// P8.1: a block of turn 0 isn't right, even with a right sum.
func TestTurnNought(t *testing.T) {
	f := of(0, []byte("none")).block()
	for _, blocks := range [][][]byte{{f, f}, {f, nought()}, {nought(), f}} {
		c := open(t, laid(t, blocks...), 0)
		isCell(t, "turn 0", c, nil, 0)
		isFound(t, "turn 0", blocks...)
	}
	old := of(1, []byte("old")).block()
	isCell(t, "turn 0 ahead", open(t, laid(t, f, old), 0), []byte("old"), 1)
	isCell(t, "turn 0 behind", open(t, laid(t, old, f), 0), []byte("old"), 1)
}

// P8.1: a block whose last eight bytes aren't its first eight isn't right, whichever byte it is.
func TestLastTurn(t *testing.T) {
	old, is := of(3, []byte("old")).block(), of(1<<40+5, []byte("new")).block()
	for i := range 8 {
		for _, by := range []byte{1, 2, 128, 255} {
			b := spoiled(is, 56+i, by)
			what := fmt.Sprintf("byte %d by %d", 56+i, by)
			isCell(t, what, open(t, laid(t, b, old), 0), []byte("old"), 3)
			isCell(t, what+", behind", open(t, laid(t, old, b), 0), []byte("old"), 3)
			isFound(t, what, b, old)
			isFound(t, what+", behind", old, b)
		}
	}
	for _, again := range []uint64{0, 1, 1<<40 + 4, 1<<40 + 6, top - 1, top} {
		f := of(1<<40+5, []byte("new"))
		f.again = again
		isFound(t, fmt.Sprintf("%d at the end", again), f.block(), old)
		isFound(t, fmt.Sprintf("%d at the end, alone", again), nought(), f.block())
	}
}

// P8.1: a block with any bit changed isn't right: the other one tells.
func TestEachBit(t *testing.T) {
	old, is := of(300, []byte("old")).block(), of(301, someBytes(20, 7)).block()
	for i := range size {
		for bit := range 8 {
			b := spoiled(is, i, 1<<bit)
			what := fmt.Sprintf("bit %d of byte %d", bit, i)
			isCell(t, what, open(t, laid(t, b, old), 0), []byte("old"), 300)
			isCell(t, what+", behind", open(t, laid(t, old, b), 0), []byte("old"), 300)
			isCell(t, what+", alone", open(t, laid(t, nought(), b), 0), nil, 0)
			isFound(t, what, old, b)
		}
	}
}

// P8.1: without a right block there is nothing, whatever both tell.
func TestNoneRight(t *testing.T) {
	bad := [][]byte{
		nought(),
		bytes.Repeat([]byte{1}, size),
		spoiled(of(7, []byte("seven")).block(), 52, 1),
		fields{turn: 7, bytes: 5, data: []byte("seven"), again: 8}.block(),
		fields{turn: 7, bytes: 44, data: someBytes(43, 0), again: 7}.block(),
		of(0, []byte("none")).block(),
		someBytes(size, 5),
	}
	for i, first := range bad {
		for j, second := range bad {
			what := fmt.Sprintf("blocks %d and %d", i, j)
			isCell(t, what, open(t, laid(t, first, second), 0), nil, 0)
			isFound(t, what, first, second)
		}
	}
}

// P8.1: what waits tells, too.
func TestOpenWaiting(t *testing.T) {
	d := laid(t, of(1, []byte("one")).block(), nought())
	isErr(t, "disk.Write", d.Write(1, of(2, []byte("two")).block()), api.OK)
	isCell(t, "waits", open(t, d, 0), []byte("two"), 2)
	d.Crash(nil)
	isCell(t, "lost", open(t, d, 0), []byte("one"), 1)
}

// P8.1: blocks beside a cell's own tell nothing.
func TestOpenBeside(t *testing.T) {
	beside := of(9, []byte("beside")).block()
	d := laid(t, beside, nought(), nought(), beside)
	isCell(t, "between", open(t, d, 1), nil, 0)
	isCell(t, "first", open(t, d, 0), []byte("beside"), 9)
	isCell(t, "last", open(t, d, 2), []byte("beside"), 9)
}

// P8.1, P8.2: bytes are in new memory, on the way in and on the way out.
func TestNewMemory(t *testing.T) {
	d := fresh(t, 2)
	c := open(t, d, 0)
	data := someBytes(20, 1)
	want := bytes.Clone(data)
	set(t, c, data)
	if !bytes.Equal(data, want) {
		t.Errorf("Set changed its bytes to %v", data)
	}
	clear(data)
	isCell(t, "its bytes changed", c, want, 1)
	isBlocks(t, "its bytes changed", d, 0, of(1, want).block(), nought())
	for _, c := range []*cell.Cell{c, open(t, d, 0)} {
		got := c.Get()
		again := c.Get()
		clear(got)
		if !bytes.Equal(again, want) {
			t.Errorf("another Get's bytes: got %v, want %v", again, want)
		}
		_ = append(again[:3], 77, 77, 77)
		isCell(t, "what Get gave changed", c, want, 1)
		set(t, c, c.Get())
		isBlocks(t, "what Get gave changed", d, 1, of(2, want).block())
		isErr(t, "disk.Write", d.Write(1, nought()), api.OK)
	}
}

// P8.2: bytes that are handed in with room behind them have nothing put there.
func TestSetLeavesRoom(t *testing.T) {
	room := someBytes(100, 2)
	want := bytes.Clone(room)
	c := open(t, fresh(t, 2), 0)
	for n := range most + 2 {
		c.Set(room[:n])
		if !bytes.Equal(room, want) {
			t.Fatalf("Set of %d bytes changed what stands behind them: %v", n, room)
		}
	}
}

// P8.1: bytes got ahead of a Set stay as they are behind it.
func TestGetStays(t *testing.T) {
	c := open(t, fresh(t, 2), 0)
	set(t, c, []byte("one"))
	got := c.Get()
	set(t, c, []byte("two"))
	set(t, c, []byte("six"))
	if string(got) != "one" {
		t.Errorf("got %q, want one", got)
	}
}

// P8.1, P8.2: each call of nil.
func TestNil(t *testing.T) {
	var c *cell.Cell
	isCell(t, "nil", c, nil, 0)
	for _, n := range []int{0, 1, 43, 44, 1000} {
		isErr(t, "Set of nil", c.Set(make([]byte, n)), api.ErrArg)
	}
	isErr(t, "Set of nil", c.Set(nil), api.ErrArg)
	isErr(t, "Set of a cell of no disk, of too many", new(cell.Cell).Set(make([]byte, 44)), api.ErrBig)
	new(cell.Cell).Set([]byte("some answer"))
}

// P8.2: Sets go by turns to both blocks, each turn 1 above the last one.
func TestSetByTurns(t *testing.T) {
	d := fresh(t, 5)
	c := open(t, d, 2)
	want := [][]byte{nought(), nought(), nought(), nought(), nought()}
	for k := range 600 {
		data := someBytes(k%(most+1), k)
		set(t, c, data)
		want[2+k%2] = of(uint64(k+1), data).block()
		what := fmt.Sprintf("Set %d", k)
		isCell(t, what, c, data, uint64(k+1))
		isBlocks(t, what, d, 0, want...)
		if d.Waits() != 0 {
			t.Errorf("%s: %d writes wait", what, d.Waits())
		}
	}
}

// P8.1, P8.2: opened again as it is, a cell is the same, and is set again as if it had been kept.
func TestOpenedAgain(t *testing.T) {
	d, kept := fresh(t, 2), fresh(t, 2)
	stays := open(t, kept, 0)
	for k := range 300 {
		data := someBytes(k%(most+1), k)
		c := open(t, d, 0)
		set(t, c, data)
		set(t, stays, data)
		isCell(t, "opened", open(t, d, 0), data, uint64(k+1))
		isBlocks(t, "opened", d, 0, blocksAt(t, kept, 0, 2)...)
	}
}

// P8.2: none, nil, all sizes up to 43; 44 and more are ErrBig, and change nothing.
func TestSetSizes(t *testing.T) {
	d := fresh(t, 2)
	c := open(t, d, 0)
	set(t, c, []byte("ahead"))
	set(t, c, nil)
	isCell(t, "nil", c, nil, 2)
	isBlocks(t, "nil", d, 1, of(2, nil).block())
	set(t, c, []byte{})
	isCell(t, "none", c, nil, 3)
	isBlocks(t, "none", d, 0, of(3, nil).block())
	isCell(t, "none, opened", open(t, d, 0), nil, 3)
	turn := uint64(3)
	for n := range 200 {
		data := someBytes(n, 4)
		was := blocksAt(t, d, 0, 2)
		had := c.Get()
		what := fmt.Sprintf("%d bytes", n)
		e := c.Set(data)
		if n > most {
			isErr(t, what, e, api.ErrBig)
			isCell(t, what, c, had, turn)
			isBlocks(t, what, d, 0, was...)
			continue
		}
		turn++
		isErr(t, what, e, api.OK)
		isCell(t, what, c, data, turn)
		isCell(t, what+", opened", open(t, d, 0), data, turn)
	}
	isErr(t, "many", c.Set(make([]byte, 1<<20)), api.ErrBig)
	isErr(t, "299", c.Set(make([]byte, 256+43)), api.ErrBig)
	set(t, c, []byte("ErrBig doesn't stay"))
}

// P8.2: bytes of all values are set, and noughts among them and at their end.
func TestSetValues(t *testing.T) {
	d := fresh(t, 2)
	c := open(t, d, 0)
	for v := range 256 {
		for _, data := range [][]byte{{byte(v)}, bytes.Repeat([]byte{byte(v)}, most), {1, byte(v), 0}, {0, byte(v)}} {
			set(t, c, data)
			isCell(t, "set", c, data, c.Turn())
			isCell(t, "opened", open(t, d, 0), data, c.Turn())
		}
	}
}

// P8.2: a shorter one behind a longer one has noughts behind its bytes.
func TestSetShorter(t *testing.T) {
	d := fresh(t, 2)
	c := open(t, d, 0)
	for range 2 {
		set(t, c, bytes.Repeat([]byte{255}, most))
	}
	set(t, c, []byte("a"))
	set(t, c, nil)
	isBlocks(t, "shorter", d, 0, of(3, []byte("a")).block(), of(4, nil).block())
}

// P8.2: each Set is one Write and one Sync; what is refused is none of both.
func TestSetCalls(t *testing.T) {
	for n := range 9 {
		d := fresh(t, 2)
		c := open(t, d, 0)
		d.Stop(n)
		for k := range n / 2 {
			isErr(t, "too many", c.Set(make([]byte, 44)), api.ErrBig)
			set(t, c, []byte{byte(k)})
		}
		if d.Down() {
			t.Errorf("Stop(%d): down behind %d Sets", n, n/2)
		}
		isErr(t, "the one at which it stops", c.Set([]byte("x")), api.ErrDown)
		if waits := d.Waits(); waits != n%2 || !d.Down() {
			t.Errorf("Stop(%d): %d writes wait, down: %v", n, waits, d.Down())
		}
	}
}

// P8.2: the Sync of a Set is for all that waits.
func TestSetSyncsAll(t *testing.T) {
	d := fresh(t, 3)
	c := open(t, d, 0)
	other := someBytes(size, 1)
	isErr(t, "disk.Write", d.Write(2, other), api.OK)
	set(t, c, []byte("one"))
	d.Crash(nil)
	isBlocks(t, "behind a crash", d, 0, of(1, []byte("one")).block(), nought(), other)
	isCell(t, "behind a crash", open(t, d, 0), []byte("one"), 1)
}

// P8.2: the first error of the disk stays, at the Write and at the Sync, and the cell is as it was.
func TestErrorStays(t *testing.T) {
	for sets := range 4 {
		for after := range 2 {
			d := fresh(t, 2)
			c := open(t, d, 0)
			var data []byte
			for k := range sets {
				data = someBytes(k+5, k)
				set(t, c, data)
			}
			was := blocksAt(t, d, 0, 2)
			d.Stop(after)
			what := fmt.Sprintf("%d Sets, and one at which it stops behind %d calls", sets, after)
			check := func(when string) {
				t.Helper()
				isErr(t, what+", "+when, c.Set([]byte("new")), api.ErrDown)
				isErr(t, what+", "+when+", none", c.Set(nil), api.ErrDown)
				isErr(t, what+", "+when+", too many", c.Set(make([]byte, 44)), api.ErrBig)
				isCell(t, what+", "+when, c, data, uint64(sets))
			}
			check("down")
			check("down once more")
			d.Crash([]byte{64 * byte(after)})
			d.Stop(0)
			check("up again")
			if d.Down() || d.Waits() != 0 {
				t.Errorf("%s: a Set with an error that stays asked the disk", what)
			}
			d.Stop(-1)
			if after == 1 {
				was[sets%2] = of(uint64(sets+1), []byte("new")).block()
			}
			isBlocks(t, what, d, 0, was...)
			isFound(t, what, was...)
			c, data = open(t, d, 0), []byte("anew")
			set(t, c, data)
			isCell(t, what+", opened anew", c, data, uint64(sets+1+after))
		}
	}
}

// P8.2: a disk that stopped at another call is told at the next Set, and that stays, too.
func TestErrorOfOthers(t *testing.T) {
	d := fresh(t, 4)
	c, other := open(t, d, 0), open(t, d, 2)
	set(t, c, []byte("one"))
	set(t, other, []byte("two"))
	d.Stop(0)
	isErr(t, "the other one", other.Set([]byte("x")), api.ErrDown)
	isCell(t, "not set", c, []byte("one"), 1)
	d.Crash(nil)
	set(t, c, []byte("three")) // it was never told an error
	isErr(t, "the other one", other.Set([]byte("x")), api.ErrDown)
	d.Stop(0)
	isErr(t, "disk.Sync", d.Sync(), api.ErrDown)
	isErr(t, "this one", c.Set([]byte("x")), api.ErrDown)
	d.Crash(nil)
	isErr(t, "this one", c.Set([]byte("x")), api.ErrDown)
	isCell(t, "as it was", c, []byte("three"), 2)
	isCell(t, "opened anew", open(t, d, 0), []byte("three"), 2)
	isCell(t, "opened anew", open(t, d, 2), []byte("two"), 1)
}

// P8.2: the greatest number there is, in front or at the end of either block, right or not, is ErrWorn; one less is taken.
func TestWorn(t *testing.T) {
	kinds := map[string]func(turn, again uint64) []byte{
		"right sum": func(turn, again uint64) []byte {
			return fields{turn: turn, bytes: 3, data: []byte("was"), again: again}.block()
		},
		"wrong sum": func(turn, again uint64) []byte {
			return spoiled(fields{turn: turn, bytes: 3, data: []byte("was"), again: again}.block(), 52, 1)
		},
		"too many bytes": func(turn, again uint64) []byte {
			return fields{turn: turn, bytes: 44, again: again}.block()
		},
		"noughts between": func(turn, again uint64) []byte {
			return slices.Concat(eight(turn), make([]byte, 48), eight(again))
		},
	}
	numbers := []uint64{0, 1, 5, 255, 256, 1<<32 - 1, 1<<56 - 1, 1<<63 - 1, 1 << 63, top - 256, top - 255, top - 2, top - 1, top}
	others := [][]byte{nought(), of(4, []byte("other")).block(), of(top-1, []byte("other")).block()}
	for name, kind := range kinds {
		for _, turn := range numbers {
			for _, again := range numbers {
				b := kind(turn, again)
				what := fmt.Sprintf("%s, %d and %d", name, turn, again)
				for _, other := range others {
					isFound(t, what, b, other)
					isFound(t, what+", behind", other, b)
				}
			}
		}
	}
}

// P8.2: the last turn there is may be set, and then no other one; this changes nothing, and is told ahead of asking the disk.
func TestWornBySet(t *testing.T) {
	for _, sure := range []bool{false, true} {
		was := of(top-1, []byte("was")).block()
		if !sure {
			was = spoiled(was, 20, 1)
		}
		d := laid(t, was, nought())
		c := open(t, d, 0)
		set(t, c, []byte("last"))
		isCell(t, "the last one", c, []byte("last"), top)
		blocks := blocksAt(t, d, 0, 2)
		d.Stop(0)
		for range 3 {
			isErr(t, "worn", c.Set([]byte("x")), api.ErrWorn)
			isErr(t, "worn, too many", c.Set(make([]byte, 44)), api.ErrBig)
			isCell(t, "worn", c, []byte("last"), top)
		}
		if d.Down() || d.Waits() != 0 {
			t.Error("a worn cell asked the disk")
		}
		isBlocks(t, "worn", d, 0, blocks...)
		c = open(t, d, 0)
		isCell(t, "opened again", c, []byte("last"), top)
		isErr(t, "opened again", c.Set(nil), api.ErrWorn)
	}
}

// P8.2: an error that stays is told ahead of ErrWorn, and ErrWorn ahead of one of the disk.
func TestErrorOrder(t *testing.T) {
	d := laid(t, of(top-1, []byte("was")).block(), nought())
	c := open(t, d, 0)
	d.Stop(1)
	isErr(t, "at the Sync", c.Set([]byte("last")), api.ErrDown)
	isErr(t, "it stays", c.Set([]byte("last")), api.ErrDown)
	isErr(t, "too many", c.Set(make([]byte, 44)), api.ErrBig)
	d.Crash([]byte{64})
	isErr(t, "it stays", c.Set([]byte("last")), api.ErrDown)
	isCell(t, "as it was", c, []byte("was"), top-1)
	worn := open(t, d, 0)
	d.Stop(0)
	isErr(t, "disk.Sync", d.Sync(), api.ErrDown)
	isErr(t, "worn, and down", worn.Set(nil), api.ErrWorn)
	isErr(t, "worn, down, and too many", worn.Set(make([]byte, 44)), api.ErrBig)
	d.Crash(nil)
	isErr(t, "worn, and up again", worn.Set(nil), api.ErrWorn)
}

// P8.2: numbers count as Open read them: not what was written since, and still when it is written over.
func TestNumbersAsRead(t *testing.T) {
	d := fresh(t, 2)
	c := open(t, d, 0)
	for i := range 2 {
		isErr(t, "disk.Write", d.Write(i, of(top, []byte("by hand")).block()), api.OK)
	}
	set(t, c, []byte("one"))
	isCell(t, "written by hand", c, []byte("one"), 1)
	isBlocks(t, "written by hand", d, 0, of(1, []byte("one")).block(), of(top, []byte("by hand")).block())
	set(t, c, []byte("two"))
	isBlocks(t, "set again", d, 0, of(1, []byte("one")).block(), of(2, []byte("two")).block())

	d = laid(t, spoiled(of(top, []byte("worn")).block(), 52, 1), of(3, []byte("three")).block())
	c = open(t, d, 0)
	isErr(t, "disk.Write", d.Write(0, nought()), api.OK)
	isErr(t, "worn", c.Set(nil), api.ErrWorn)
	isErr(t, "not shared", open(t, d, 0).Set(nil), api.OK)

	d = laid(t, fields{turn: 90, again: 100}.block(), of(3, []byte("three")).block())
	c = open(t, d, 0)
	isErr(t, "disk.Write", d.Write(0, nought()), api.OK)
	for k := range 3 {
		set(t, c, nil)
		isCell(t, "above what was read", c, nil, uint64(101+k))
	}
	isBlocks(t, "above what was read", d, 0, of(103, nil).block(), of(102, nil).block())
}

// P8.2: the next turn is right where bytes of it run over.
func TestNextTurn(t *testing.T) {
	for shift := range 64 {
		for _, by := range []uint64{0, 1, 2, top} { // the number itself, 1 and 2 above, and 1 below
			turn := uint64(1)<<shift + by
			if turn == 0 || turn == top {
				continue
			}
			what := fmt.Sprintf("turn %d", turn)
			c := open(t, laid(t, of(turn, nil).block(), nought()), 0)
			set(t, c, []byte("next"))
			isCell(t, what, c, []byte("next"), turn+1)
			isFound(t, what, nought(), of(turn, []byte("x")).block())
		}
	}
}

// P8.1, P8.2: cells beside one another, at a disk's first two blocks, and at its last two, change nothing of one another.
func TestBeside(t *testing.T) {
	d := fresh(t, 6)
	cells := []*cell.Cell{open(t, d, 0), open(t, d, 2), open(t, d, 4)}
	want := [][]byte{nought(), nought(), nought(), nought(), nought(), nought()}
	turns := make([]uint64, 3)
	held := make([][]byte, 3)
	r := rand.New(rand.NewSource(1))
	for k := range 500 {
		i := r.Intn(3)
		held[i] = someBytes(r.Intn(most+1), k)
		want[2*i+int(turns[i]%2)] = of(turns[i]+1, held[i]).block()
		turns[i]++
		set(t, cells[i], held[i])
		if r.Intn(10) == 0 {
			d.Crash(nil)
			cells[r.Intn(3)] = open(t, d, 2*i)
			cells = []*cell.Cell{open(t, d, 0), open(t, d, 2), open(t, d, 4)}
		}
		for j, c := range cells {
			isCell(t, fmt.Sprintf("Set %d, cell %d", k, j), c, held[j], turns[j])
		}
		isBlocks(t, fmt.Sprintf("Set %d", k), d, 0, want...)
	}
}

// P8.3: a write that is cut off anywhere leaves what the cell was set to last, or what it was set to ahead.
func TestTorn(t *testing.T) {
	for sets := range 4 {
		for n := range size + 1 {
			for after := range 3 {
				d := fresh(t, 2)
				c := open(t, d, 0)
				var data []byte
				for k := range sets {
					data = someBytes(k*7+10, k)
					set(t, c, data)
				}
				was := blocksAt(t, d, 0, 2)
				d.Stop(after)
				e := c.Set([]byte("new"))
				d.Crash([]byte{byte(n)})
				what := fmt.Sprintf("%d Sets, and one cut off at %d, stopped behind %d calls", sets, n, after)
				whole := after == 2 || after == 1 && bytes.Equal(torn(was[sets%2], of(uint64(sets+1), []byte("new")).block(), n), of(uint64(sets+1), []byte("new")).block())
				c = open(t, d, 0)
				if whole {
					isCell(t, what, c, []byte("new"), uint64(sets+1))
				} else {
					isErr(t, what, e, api.ErrDown)
					isCell(t, what, c, data, uint64(sets))
				}
				if after == 1 {
					was[sets%2] = torn(was[sets%2], of(uint64(sets+1), []byte("new")).block(), n)
					isFound(t, what, was...)
				}
			}
		}
	}
}

// P8.3: crash by crash, each of them at the Sync, a cell has what went through last.
func TestCrashByCrash(t *testing.T) {
	for _, start := range []uint64{0, 1, 250, 254, 255, 65530, 1<<32 - 3, 1<<56 - 4} {
		for _, first := range tears() {
			d := fresh(t, 2)
			held, turn := []byte(nil), uint64(0)
			if start > 0 {
				held, turn = []byte("start"), start
				d = laid(t, nought(), of(start, held).block())
			}
			for k, tear := range append([]byte{first}, tears()...) {
				c := open(t, d, 0)
				what := fmt.Sprintf("from %d, tear %d, then %d", start, first, tear)
				isCell(t, what, c, held, turn)
				data := someBytes(k*3%(most+1), k)
				blocks := blocksAt(t, d, 0, 2)
				_, _, which, greatest := told(blocks)
				d.Stop(1)
				isErr(t, what, c.Set(data), api.ErrDown)
				d.Crash([]byte{tear})
				blocks[spare(which)] = torn(blocks[spare(which)], of(greatest+1, data).block(), int(tear))
				isBlocks(t, what, d, 0, blocks...)
				if tear == 64 || bytes.Equal(blocks[spare(which)], of(greatest+1, data).block()) {
					held, turn = data, greatest+1
				}
			}
			c := open(t, d, 0)
			isCell(t, "at last", c, held, turn)
		}
	}
}

// P8.3: a crash while no Set is under way changes nothing, and the cell goes on.
func TestCrashBetween(t *testing.T) {
	d := fresh(t, 3)
	c := open(t, d, 0)
	for k := range 20 {
		data := someBytes(k, k)
		set(t, c, data)
		isErr(t, "disk.Write", d.Write(2, someBytes(size, k)), api.OK)
		d.Crash([]byte{byte(k * 5)})
		isCell(t, "kept", c, data, uint64(k+1))
		isCell(t, "opened", open(t, d, 0), data, uint64(k+1))
	}
}

// model is a cell as the document words it, on the same disk as the one that it is held against.
type model struct {
	data     []byte
	turn     uint64
	which    int
	greatest uint64
	err      api.Errno
}

// opened is the model of a cell that is opened on these blocks.
func opened(blocks [][]byte) model {
	var m model
	m.data, m.turn, m.which, m.greatest = told(blocks)
	m.data = bytes.Clone(m.data)
	return m
}

// set is Set, as the document words it: its error, and the block that it lets wait (none: nil), and where.
func (m *model) set(data []byte, calls int) (e api.Errno, block []byte, at int) {
	switch {
	case len(data) > most:
		return api.ErrBig, nil, 0
	case m.err != api.OK:
		return m.err, nil, 0
	case max(m.greatest, m.turn) == top:
		return api.ErrWorn, nil, 0
	case calls == 0:
		m.err = api.ErrDown
		return m.err, nil, 0
	}
	at = spare(m.which)
	block = of(max(m.greatest, m.turn)+1, data).block()
	if calls == 1 {
		m.err = api.ErrDown
		return m.err, block, at
	}
	m.data, m.turn, m.which = bytes.Clone(data), max(m.greatest, m.turn)+1, at
	return api.OK, block, at
}

// chanceTurn is a number near an edge, or any other one.
func chanceTurn(r *rand.Rand) uint64 {
	switch r.Intn(5) {
	case 0:
		return uint64(r.Intn(4))
	case 1:
		return top - uint64(r.Intn(5))
	case 2:
		return uint64(1)<<r.Intn(64) - uint64(r.Intn(2))
	case 3:
		return r.Uint64()
	}
	return uint64(r.Intn(1000))
}

// chanceBlock is a block that is right, or nearly so.
func chanceBlock(r *rand.Rand) []byte {
	f := of(chanceTurn(r), someBytes(r.Intn(most+1), r.Intn(1000)))
	switch r.Intn(8) {
	case 0:
		f.again = chanceTurn(r)
	case 1:
		f.bytes = r.Intn(256)
	case 2:
		return spoiled(f.block(), r.Intn(size), byte(1+r.Intn(255)))
	}
	return f.block()
}

// P8.1, P8.2, P8.3: a cell and the document's words answer the same, whatever comes by chance.
func TestByChance(t *testing.T) {
	for seed := range 400 {
		r := rand.New(rand.NewSource(int64(seed)))
		d := fresh(t, 4)
		blocks := blocksAt(t, d, 1, 2)
		var log []string
		c, m := open(t, d, 1), opened(blocks)
		for step := range 60 {
			switch r.Intn(8) {
			case 0: // opened again
				log = append(log, "open")
				c, m = open(t, d, 1), opened(blocks)
			case 1: // written over by hand
				i, b := r.Intn(2), chanceBlock(r)
				log = append(log, fmt.Sprintf("block %d is %v", i, b))
				isErr(t, "disk.Write", d.Write(1+i, b), api.OK)
				isErr(t, "disk.Sync", d.Sync(), api.OK)
				blocks[i] = b
				c, m = open(t, d, 1), opened(blocks)
			case 2: // stopped, and crashed
				calls, tear := r.Intn(3), byte(r.Intn(65))
				data := someBytes(r.Intn(most+3), step)
				d.Stop(calls)
				e, block, at := m.set(data, calls)
				log = append(log, fmt.Sprintf("Set of %d bytes, Stop(%d), Crash(%d)", len(data), calls, tear))
				isErr(t, strings.Join(log, "; "), c.Set(data), e)
				d.Crash([]byte{tear})
				d.Stop(-1)
				if block != nil && calls == 1 {
					block = torn(blocks[at], block, int(tear))
				}
				if block != nil {
					blocks[at] = block
				}
			default:
				data := someBytes(r.Intn(most+3), step)
				e, block, at := m.set(data, math.MaxInt)
				log = append(log, fmt.Sprintf("Set of %d bytes", len(data)))
				isErr(t, strings.Join(log, "; "), c.Set(data), e)
				if block != nil {
					blocks[at] = block
				}
			}
			isCell(t, strings.Join(log, "; "), c, m.data, m.turn)
			isBlocks(t, strings.Join(log, "; "), d, 0, nought(), blocks[0], blocks[1], nought())
			if t.Failed() {
				t.Fatalf("seed %d", seed)
			}
		}
	}
}

// P8.3: whatever is set, and wherever it is cut off, a cell has what it was set to last, or what it was set to ahead.
func TestLastOrAhead(t *testing.T) {
	for seed := range 300 {
		r := rand.New(rand.NewSource(int64(seed)))
		d := fresh(t, 2)
		var ahead []byte
		turn := uint64(0)
		for step := range 40 {
			c := open(t, d, 0)
			isCell(t, "opened", c, ahead, turn)
			data := someBytes(r.Intn(most+1), step)
			d.Stop(r.Intn(3))
			e := c.Set(data)
			d.Crash([]byte{byte(r.Intn(256))})
			d.Stop(-1)
			c = open(t, d, 0)
			got := c.Get()
			switch {
			case bytes.Equal(got, data) && c.Turn() > turn:
				ahead, turn = data, c.Turn()
			case e == api.OK || !bytes.Equal(got, ahead) || c.Turn() != turn:
				t.Fatalf("seed %d, step %d: got %v of turn %d, error %d; set to %v, ahead to %v of turn %d", seed, step, got, c.Turn(), e, data, ahead, turn)
			}
		}
	}
}

// P8.1, P8.2: the same calls have the same answers.
func TestSameAgain(t *testing.T) {
	run := func() string {
		d := laid(t, of(3, []byte("c")).block(), of(2, []byte("b")).block())
		c := open(t, d, 0)
		answer := fmt.Sprint(c.Get(), c.Turn(), c.Set([]byte("d")), c.Set(make([]byte, 50)))
		d.Stop(1)
		answer += fmt.Sprint(c.Set(nil), c.Set(nil), c.Get(), c.Turn())
		d.Crash([]byte{9})
		return answer + fmt.Sprint(blocksAt(t, d, 0, 2))
	}
	if first, second := run(), run(); first != second {
		t.Errorf("got %s, then %s", first, second)
	}
}
