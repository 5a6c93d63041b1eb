package segment_test

import (
	"bytes"
	"fmt"
	"hash/crc32"
	"math"
	"math/rand"
	"slices"
	"testing"

	"notcher/api"
	"notcher/disk"
	"notcher/segment"
)

// The limits, in the document's own numbers.
const (
	size      = 64
	partSize  = 45
	mostBytes = 4096
	mostParts = 92
	topEpoch  = 4294967295
)

// tears are how many bytes of a write a crash leaves, at the edges of what a block's fields are.
func tears() []byte { return []byte{0, 3, 4, 59, 60, 61, 63, 64} }

// farInts are numbers far beside all places; some of them would be good ones if they were cut to fewer bits.
func farInts() []int {
	return []int{-1, -2, -64, -65536, 1 << 17, 1<<17 + 1, 1 << 24, 1 << 32, 1<<32 + 1, 1<<48 + 1, math.MinInt, math.MinInt + 1, math.MaxInt - 1, math.MaxInt}
}

// someBytes are n bytes that look like chance, the same ones each time for n and k; none is 0.
func someBytes(n, k int) []byte {
	b := make([]byte, n)
	x := uint32(n*1009 + k + 1)
	for i := range b {
		x = x*1664525 + 1013904223
		b[i] = byte(x>>24) | 1
	}
	return b
}

// fields are what a block tells, as the document words them.
type fields struct {
	epoch, place      uint32 // the place as it is, without the 1
	part, many, bytes int
	data              []byte // with the noughts, or fewer
	again             uint32 // the epoch once more
}

// block is these fields as bytes, with a right sum.
func (f fields) block() []byte {
	p := f.place + 1
	b := []byte{
		byte(f.epoch / 16777216), byte(f.epoch / 65536 % 256), byte(f.epoch / 256 % 256), byte(f.epoch % 256),
		byte(p / 16777216), byte(p / 65536 % 256), byte(p / 256 % 256), byte(p % 256),
		byte(f.part), byte(f.many), byte(f.bytes),
	}
	b = append(b, f.data...)
	b = append(b, make([]byte, 56-len(b))...)
	b = sealed(b)
	return append(b, byte(f.again/16777216), byte(f.again/65536%256), byte(f.again/256%256), byte(f.again%256))
}

// sealed is bytes and their sum, by the library's CRC-32C.
func sealed(b []byte) []byte {
	x := crc32.Checksum(b, crc32.MakeTable(crc32.Castagnoli))
	return append(bytes.Clone(b), byte(x>>24), byte(x>>16), byte(x>>8), byte(x))
}

// partsOf are the fields of all blocks of a record.
func partsOf(epoch uint32, place int, record []byte) []fields {
	var cut [][]byte
	for len(record) > partSize {
		cut = append(cut, record[:partSize])
		record = record[partSize:]
	}
	cut = append(cut, record)
	var l []fields
	for i, c := range cut {
		l = append(l, fields{epoch: epoch, place: uint32(place), part: i, many: len(cut), bytes: len(c), data: c, again: epoch})
	}
	return l
}

// blocksOf are the blocks of all these.
func blocksOf(l []fields) [][]byte {
	var blocks [][]byte
	for _, f := range l {
		blocks = append(blocks, f.block())
	}
	return blocks
}

// recordsOf are the fields of all blocks of records, of one epoch, from place 0 on.
func recordsOf(epoch uint32, records ...[]byte) []fields {
	var l []fields
	for k, r := range records {
		l = append(l, partsOf(epoch, k, r)...)
	}
	return l
}

// number is four bytes as a number.
func number(b []byte) int { return ((int(b[0])*256+int(b[1]))*256+int(b[2]))*256 + int(b[3]) }

// taken is what Open must find, by the document's words: the records, and how many blocks they have.
func taken(blocks [][]byte) (records [][]byte, used int) {
	ahead := 0
	for {
		record, parts, epoch := recordAt(blocks[used:], len(records), ahead)
		if parts == 0 {
			return records, used
		}
		records = append(records, record)
		used += parts
		ahead = epoch
	}
}

// recordAt is the record of a place that these blocks begin with, if one does: its bytes, how many parts it has, and its epoch.
func recordAt(blocks [][]byte, place, ahead int) (record []byte, parts, epoch int) {
	if len(blocks) == 0 {
		return nil, 0, 0
	}
	many, epoch := int(blocks[0][9]), number(blocks[0])
	if many < 1 || many > mostParts || many > len(blocks) || epoch < ahead {
		return nil, 0, 0
	}
	for i, b := range blocks[:many] {
		n := int(b[10])
		last := i == many-1
		switch {
		case !bytes.Equal(sealed(b[:56]), b[:60]), number(b[60:]) != number(b), n > partSize: // it isn't right
			return nil, 0, 0
		case number(b) != epoch, number(b[4:]) != place+1, int(b[8]) != i, int(b[9]) != many:
			return nil, 0, 0
		case !last && n != partSize, last && n == 0 && many != 1:
			return nil, 0, 0
		}
		record = append(record, b[11:11+n]...)
	}
	return record, many, epoch
}

// fresh is a disk of so many blocks.
func fresh(t *testing.T, n int) *disk.Disk {
	t.Helper()
	d, e := disk.New(n)
	if e != api.OK {
		t.Fatalf("disk.New(%d): got error %d", n, e)
	}
	return d
}

// laid is a disk of these blocks, all sure.
func laid(t *testing.T, blocks ...[]byte) *disk.Disk {
	t.Helper()
	d := fresh(t, len(blocks))
	write(t, d, 0, blocks...)
	isErr(t, "disk.Sync", d.Sync(), api.OK)
	return d
}

// write writes blocks to a disk from a place on.
func write(t *testing.T, d *disk.Disk, from int, blocks ...[]byte) {
	t.Helper()
	for i, b := range blocks {
		isErr(t, "disk.Write", d.Write(from+i, b), api.OK)
	}
}

// blocksAt are n blocks of a disk from a place on.
func blocksAt(t *testing.T, d *disk.Disk, from, n int) [][]byte {
	t.Helper()
	var l [][]byte
	for i := range n {
		b, e := d.Read(from + i)
		isErr(t, "disk.Read", e, api.OK)
		l = append(l, b)
	}
	return l
}

// noughts are n blocks of noughts.
func noughts(n int) [][]byte {
	var l [][]byte
	for range n {
		l = append(l, make([]byte, size))
	}
	return l
}

// open opens a segment, which must go.
func open(t *testing.T, d *disk.Disk, from, n int) *segment.Segment {
	t.Helper()
	s, e := segment.Open(d, from, n)
	if e != api.OK || s == nil {
		t.Fatalf("Open(%d, %d): got error %d", from, n, e)
	}
	return s
}

// refusesOpen says the error of Open, beside which there is no segment.
func refusesOpen(t *testing.T, what string, d *disk.Disk, from, n int, want api.Errno) {
	t.Helper()
	s, e := segment.Open(d, from, n)
	isErr(t, fmt.Sprintf("%s: Open(%d, %d)", what, from, n), e, want)
	if s != nil {
		t.Errorf("%s: Open(%d, %d): got a segment beside an error", what, from, n)
	}
}

func isErr(t *testing.T, what string, got, want api.Errno) {
	t.Helper()
	if got != want {
		t.Errorf("%s: got error %d, want %d", what, got, want)
	}
}

func isInt(t *testing.T, what string, got, want int) {
	t.Helper()
	if got != want {
		t.Errorf("%s: got %d, want %d", what, got, want)
	}
}

// is says how many records there are, how many are sure, and how many blocks are free.
func is(t *testing.T, what string, s *segment.Segment, many, sure, free int) {
	t.Helper()
	isInt(t, what+": Len", s.Len(), many)
	isInt(t, what+": Sure", s.Sure(), sure)
	isInt(t, what+": Free", s.Free(), free)
}

// appends appends a record, which must go.
func appends(t *testing.T, s *segment.Segment, record []byte) {
	t.Helper()
	many, sure, free := s.Len(), s.Sure(), s.Free()
	k, e := s.Append(record)
	isErr(t, fmt.Sprintf("Append of %d bytes", len(record)), e, api.OK)
	isInt(t, fmt.Sprintf("Append of %d bytes: the place", len(record)), k, many)
	is(t, fmt.Sprintf("Append of %d bytes", len(record)), s, many+1, sure, free-len(partsOf(0, 0, record)))
}

// refuses says the error of Append, beside which the place is 0 and nothing is another one than ahead.
func refuses(t *testing.T, what string, s *segment.Segment, record []byte, want api.Errno) {
	t.Helper()
	many, sure, free := s.Len(), s.Sure(), s.Free()
	k, e := s.Append(record)
	isErr(t, fmt.Sprintf("%s: Append of %d bytes", what, len(record)), e, want)
	isInt(t, what+": the place beside an error", k, 0)
	is(t, what, s, many, sure, free)
}

// syncs syncs, which must go.
func syncs(t *testing.T, s *segment.Segment) {
	t.Helper()
	many, free := s.Len(), s.Free()
	isErr(t, "Sync", s.Sync(), api.OK)
	is(t, "Sync", s, many, many, free)
}

// reads says what a record is.
func reads(t *testing.T, what string, s *segment.Segment, k int, want []byte) []byte {
	t.Helper()
	b, e := s.Read(k)
	isErr(t, fmt.Sprintf("%s: Read(%d)", what, k), e, api.OK)
	if !bytes.Equal(b, want) {
		t.Errorf("%s: Read(%d): got % d, want % d", what, k, b, want)
	}
	return b
}

// refusesRead says the error of Read, beside which there are no bytes.
func refusesRead(t *testing.T, what string, s *segment.Segment, k int, want api.Errno) {
	t.Helper()
	b, e := s.Read(k)
	isErr(t, fmt.Sprintf("%s: Read(%d)", what, k), e, want)
	if len(b) != 0 {
		t.Errorf("%s: Read(%d): got % d beside an error", what, k, b)
	}
}

// holds says what all records from a place on are; those ahead were given up.
func holds(t *testing.T, what string, s *segment.Segment, from int, records ...[]byte) {
	t.Helper()
	isInt(t, what+": Len", s.Len(), len(records))
	for k, r := range records {
		if k < from {
			refusesRead(t, what, s, k, api.ErrTrimmed)
		} else {
			reads(t, what, s, k, r)
		}
	}
	refusesRead(t, what, s, -1, api.ErrRange)
	refusesRead(t, what, s, len(records), api.ErrRange)
}

// finds opens a segment on a whole disk, and says what records it must have, all sure, and how many blocks they have.
func finds(t *testing.T, what string, d *disk.Disk, used int, records ...[]byte) *segment.Segment {
	t.Helper()
	s := open(t, d, 0, d.Len())
	is(t, what, s, len(records), len(records), d.Len()-used)
	holds(t, what, s, 0, records...)
	return s
}

// isBlock says what a block of a disk is.
func isBlock(t *testing.T, what string, d *disk.Disk, i int, want []byte) {
	t.Helper()
	got, e := d.Read(i)
	isErr(t, what+": disk.Read", e, api.OK)
	if !bytes.Equal(got, want) {
		t.Errorf("%s: block %d: got % d, want % d", what, i, got, want)
	}
}

// spoil changes all that is reached of some bytes.
func spoil(b []byte) {
	b = b[:cap(b)]
	for i := range b {
		b[i] ^= 255
	}
}

// P7.1: the document's example, the edges, and each number up to that of two of the longest records.
func TestNeed(t *testing.T) {
	for _, c := range [][2]int{{50, 2}, {0, 1}, {1, 1}, {44, 1}, {45, 1}, {46, 2}, {89, 2}, {90, 2}, {91, 3}, {4095, 91}, {4096, 92}, {4097, 92}, {4140, 92}, {4141, 93}, {65536, 1457}} {
		isInt(t, fmt.Sprint("Need of ", c[0]), segment.Need(c[0]), c[1])
	}
	for n := range 2 * mostBytes {
		isInt(t, fmt.Sprint("Need of ", n), segment.Need(n), len(partsOf(0, 0, make([]byte, n))))
	}
	for _, n := range []int{-1, -44, -45, -46, -90, -1 << 32, math.MinInt + 1, math.MinInt} {
		isInt(t, fmt.Sprint("Need of ", n), segment.Need(n), 1)
	}
	for _, n := range []int{1 << 31, 1 << 32, math.MaxInt - 45, math.MaxInt - 1, math.MaxInt} {
		want := n / 45
		if n%45 > 0 {
			want++
		}
		isInt(t, fmt.Sprint("Need of ", n), segment.Need(n), want)
	}
}

// P7.1: a disk that there isn't, and a region that isn't on it.
func TestOpenOfWrongRegions(t *testing.T) {
	for _, from := range append(farInts(), 0, 1, 5) {
		for _, n := range append(farInts(), 0, 1, 5) {
			refusesOpen(t, "of nil", nil, from, n, api.ErrArg)
			refusesOpen(t, "of a disk without blocks", &disk.Disk{}, from, n, api.ErrArg)
		}
	}
	d := fresh(t, 10)
	for _, n := range append(farInts(), 0, 1, 9, 10, 11) {
		for _, from := range append(farInts(), 10, 11, 20) {
			refusesOpen(t, "from a block that there isn't", d, from, n, api.ErrArg)
		}
	}
	for from := range 10 {
		for _, n := range append(farInts(), 0, 11-from, 12-from, 11, math.MaxInt-from, math.MaxInt-from+1) {
			refusesOpen(t, "of a wrong number", d, from, n, api.ErrArg)
		}
	}
}

// P7.1: all regions that are on a disk: the first block that is written is the region's first, and as many are free as it has.
func TestOpenOfRightRegions(t *testing.T) {
	for from := range 6 {
		for n := 1; n <= 6-from; n++ {
			d := fresh(t, 6)
			s := open(t, d, from, n)
			is(t, "a new one", s, 0, 0, n)
			want := noughts(6)
			for k := range n {
				appends(t, s, []byte{byte(k)})
				want[from+k] = partsOf(1, k, []byte{byte(k)})[0].block()
			}
			refuses(t, "full", s, nil, api.ErrSpace)
			syncs(t, s)
			for i, b := range want {
				isBlock(t, fmt.Sprintf("from %d, %d of 6", from, n), d, i, b)
			}
			is(t, "opened again", open(t, d, from, n), n, n, 0)
		}
	}
	d := fresh(t, 65536)
	is(t, "the greatest", open(t, d, 0, 65536), 0, 0, 65536)
	s := open(t, d, 65535, 1)
	appends(t, s, []byte("last"))
	syncs(t, s)
	holds(t, "the last block", open(t, d, 65535, 1), 0, []byte("last"))
	holds(t, "all ahead of it", open(t, d, 0, 65535), 0)
}

// P7.1: of a disk that is down; what is wrong with the region is told ahead of that, and that ahead of a worn epoch.
func TestOpenOfADiskThatIsDown(t *testing.T) {
	d := laid(t, recordsOf(topEpoch, []byte("a"))[0].block(), make([]byte, size))
	refusesOpen(t, "up", d, 0, 2, api.ErrWorn)
	d.Stop(0)
	isErr(t, "disk.Sync", d.Sync(), api.ErrDown)
	for from := range 2 {
		for n := 1; n <= 2-from; n++ {
			refusesOpen(t, "down", d, from, n, api.ErrDown)
		}
	}
	for _, n := range append(farInts(), 0, 3) {
		refusesOpen(t, "down, and of a wrong number", d, 0, n, api.ErrArg)
	}
	for _, from := range append(farInts(), 2) {
		refusesOpen(t, "down, and from a wrong block", d, from, 1, api.ErrArg)
	}
	d.Crash(nil)
	refusesOpen(t, "up again", d, 0, 2, api.ErrWorn)
	is(t, "up again, beside it", open(t, d, 1, 1), 0, 0, 1)
}

// P7.1: Open only reads: nothing is written, nothing is synced, no call counts.
func TestOpenOnlyReads(t *testing.T) {
	d := fresh(t, 4)
	write(t, d, 0, blocksOf(recordsOf(7, someBytes(50, 1), []byte("b")))...)
	want := blocksAt(t, d, 0, 4)
	d.Stop(0)
	s := finds(t, "while they wait", d, 3, someBytes(50, 1), []byte("b"))
	isInt(t, "how many wait", d.Waits(), 3)
	s.Trim(2)
	s.Read(1)
	isInt(t, "how many wait", d.Waits(), 3)
	for i, b := range want {
		isBlock(t, "opened", d, i, b)
	}
	if d.Down() {
		t.Error("Open made a call that counts")
	}
}

// P7.1: where the first block is none of a record there are no records, whatever stands behind; new ones go there.
func TestOpenOfNoRecords(t *testing.T) {
	fours := bytes.Repeat([]byte{255}, size)
	copy(fours, []byte{0, 0, 0, 9})
	copy(fours[60:], []byte{0, 0, 0, 9})
	for _, first := range [][]byte{make([]byte, size), fours, someBytes(size, 3)} {
		for _, behind := range [][][]byte{noughts(2), blocksOf(recordsOf(1, []byte("a"), []byte("b"))), blocksOf(recordsOf(1, nil, []byte("a"), []byte("b"))[1:])} {
			d := laid(t, append([][]byte{first}, behind...)...)
			s := finds(t, "no records", d, 0)
			appends(t, s, []byte("new"))
			syncs(t, s)
			finds(t, "a new one", d, 1, []byte("new"))
		}
	}
}

// P7.1: records of all lengths, each with one behind it, are found as they were laid, and are sure.
func TestOpenFindsAllLengths(t *testing.T) {
	for n := range 300 {
		isFound(t, n)
	}
	for _, n := range []int{2024, 2025, 2026, 4049, 4050, 4051, 4094, 4095, 4096, 4097, 4139, 4140} {
		isFound(t, n)
	}
}

// isFound lays a record of n bytes by hand, with another one behind it.
func isFound(t *testing.T, n int) {
	t.Helper()
	records := [][]byte{someBytes(n, 1), []byte("behind")}
	blocks := blocksOf(recordsOf(3, records...))
	d := laid(t, append(blocks, noughts(2)...)...)
	s := finds(t, fmt.Sprintf("a record of %d bytes", n), d, len(blocks), records...)
	isInt(t, "what is sure may be given up", s.Trim(9), 2)
}

// P7.1: a record of 92 parts is one, also where it has more bytes than Append takes; one of 93 parts, and more, is none.
func TestOpenOfManyParts(t *testing.T) {
	for _, parts := range []int{1, 2, 91, 92, 93, 94, 128, 180, 255} {
		record := someBytes(parts*partSize, 2)
		d := laid(t, blocksOf(recordsOf(2, record, []byte("behind")))...)
		if parts > mostParts {
			finds(t, fmt.Sprintf("%d parts", parts), d, 0)
		} else {
			finds(t, fmt.Sprintf("%d parts", parts), d, parts+1, record, []byte("behind"))
		}
	}
}

// P7.1: a record has parts and no place for more bytes than a region has: one that goes on behind the region isn't there.
func TestOpenOfARegionThatEndsInARecord(t *testing.T) {
	records := [][]byte{[]byte("a"), someBytes(130, 1), nil, someBytes(46, 2)}
	blocks := blocksOf(recordsOf(4, records...))
	d := laid(t, blocks...)
	for n := 1; n <= len(blocks); n++ {
		want, used := taken(blocks[:n])
		s := open(t, d, 0, n)
		is(t, fmt.Sprintf("%d blocks", n), s, len(want), len(want), n-used)
		holds(t, fmt.Sprintf("%d blocks", n), s, 0, want...)
	}
	for from := 1; from < len(blocks); from++ {
		is(t, fmt.Sprintf("from %d", from), open(t, d, from, len(blocks)-from), 0, 0, len(blocks)-from)
	}
}

// P7.1: the records' epochs may stay and rise, from 0 on; one that falls ends them.
func TestOpenOfEpochs(t *testing.T) {
	for _, epochs := range [][]uint32{
		{0}, {0, 0, 0}, {0, 1, 1}, {5, 5, 5}, {5, 6, 9}, {5, 4, 5}, {5, 0, 5}, {5, 6, 5}, {9, 9, 8}, {1, 256, 255}, {256, 255, 256},
		{1, topEpoch - 1, topEpoch - 1}, {topEpoch - 1, 1, topEpoch - 1}, {1 << 31, 1<<31 - 1, 1 << 31}, {65535, 65536, 65537}, {65536, 65535, 65537},
		{1 << 24, 1<<24 - 1, 1 << 24}, {3, 2, 1}, {1, 2, 3}, {2, 3, 2},
	} {
		var l []fields
		for k, epoch := range epochs {
			l = append(l, partsOf(epoch, k, someBytes(40+3*k, k))...)
		}
		blocks := blocksOf(l)
		want, used := taken(blocks)
		many := 1
		for many < len(epochs) && epochs[many] >= epochs[many-1] {
			many++
		}
		isInt(t, "the words", len(want), many)
		finds(t, fmt.Sprint("epochs ", epochs), laid(t, blocks...), used, want...)
	}
}

// isEpoch appends a record to a whole disk that has room, and says which epoch its block must have.
func isEpoch(t *testing.T, what string, d *disk.Disk, from, n int, want uint32) {
	t.Helper()
	s := open(t, d, from, n)
	k, at := s.Len(), from+n-s.Free()
	appends(t, s, []byte("new"))
	isBlock(t, what, d, at, partsOf(want, k, []byte("new"))[0].block())
	appends(t, s, nil)
	isBlock(t, what+", once more", d, at+1, partsOf(want, k+1, nil)[0].block())
}

// P7.1: a new segment's epoch is 1; opened again, with nothing written, it is the same; opened behind a write it is 1 more.
func TestEpochOpenByOpen(t *testing.T) {
	d := fresh(t, 20)
	for range 3 {
		open(t, d, 0, 20)
	}
	for epoch := range 8 {
		isEpoch(t, "open by open", d, 0, 20, uint32(epoch+1))
	}
}

// P7.1: the epoch is 1 more than the greatest number in the first, or the last, four bytes of any block, be it right or not.
func TestEpochOfAnyBlock(t *testing.T) {
	numbers := []uint32{1, 2, 255, 256, 257, 65535, 65536, 65537, 1<<24 - 1, 1 << 24, 0x01020304, 0x04030201, 1<<31 - 1, 1 << 31, topEpoch - 1, topEpoch}
	for _, x := range numbers {
		for at := range 6 {
			for _, end := range []string{"first", "last", "both"} {
				blocks := noughts(6)
				for i, four := range []byte{byte(x >> 24), byte(x >> 16), byte(x >> 8), byte(x)} {
					if end != "last" {
						blocks[at][i] = four
					}
					if end != "first" {
						blocks[at][60+i] = four
					}
				}
				what := fmt.Sprintf("%d in the %s four bytes of block %d", x, end, at)
				d := laid(t, blocks...)
				if x == topEpoch {
					refusesOpen(t, what, d, 0, 6, api.ErrWorn)
				} else {
					isEpoch(t, what, d, 0, 6, x+1)
				}
			}
		}
	}
}

// P7.1: it is the greatest one of several, of blocks that are right and of such as aren't, and no other bytes tell.
func TestEpochIsTheGreatest(t *testing.T) {
	laidOut := func(l ...uint32) *disk.Disk {
		var blocks [][]byte
		for _, x := range l {
			b := bytes.Repeat([]byte{255}, size)
			copy(b, []byte{byte(x >> 24), byte(x >> 16), byte(x >> 8), byte(x)})
			copy(b[60:], b[:4])
			blocks = append(blocks, b)
		}
		return laid(t, blocks...)
	}
	isEpoch(t, "the first one", laidOut(9, 3, 4), 0, 3, 10)
	isEpoch(t, "one between", laidOut(3, 900, 4), 0, 3, 901)
	isEpoch(t, "the last one", laidOut(3, 255, 256), 0, 3, 257)
	isEpoch(t, "none", laidOut(0, 0, 0), 0, 3, 1)
	isEpoch(t, "beside those of the region", laidOut(800, 3, 4, 900), 1, 2, 5)
	isEpoch(t, "beside a worn one ahead, and one behind", laidOut(topEpoch, 3, 4, topEpoch), 1, 2, 5)
	for at := range 3 {
		l := []uint32{3, 4, 5}
		l[at] = topEpoch
		refusesOpen(t, "a worn one", laidOut(l...), 0, 3, api.ErrWorn)
	}
	f := fields{epoch: 6, place: 0, many: 1, again: 8}
	isEpoch(t, "the last bytes are greater", laid(t, f.block(), make([]byte, size)), 0, 2, 9)
	f = fields{epoch: 8, place: 0, many: 1, again: 6}
	isEpoch(t, "the first bytes are greater", laid(t, f.block(), make([]byte, size)), 0, 2, 9)
}

// P7.1: an epoch may be the last one there is; behind it the segment is worn.
func TestEpochIsWorn(t *testing.T) {
	d := laid(t, append(blocksOf(recordsOf(topEpoch-1, []byte("a"))), noughts(4)...)...)
	s := finds(t, "the last but one", d, 1, []byte("a"))
	appends(t, s, []byte("b"))
	syncs(t, s)
	appends(t, s, []byte("c"))
	isBlock(t, "the last epoch", d, 1, partsOf(topEpoch, 1, []byte("b"))[0].block())
	isBlock(t, "the last epoch", d, 2, partsOf(topEpoch, 2, []byte("c"))[0].block())
	refusesOpen(t, "worn", d, 0, 5, api.ErrWorn)
	d.Crash(nil)
	refusesOpen(t, "worn, behind a crash", d, 0, 5, api.ErrWorn)
	is(t, "beside it", open(t, d, 2, 3), 0, 0, 3)
}

// spoils are changes of a part of a record of three, by each of which its block, with a right sum, is none of that record.
func spoils() map[string]func(f *fields) {
	return map[string]func(f *fields){
		"the last four bytes are less":        func(f *fields) { f.again-- },
		"the last four bytes are more":        func(f *fields) { f.again++ },
		"the last four bytes are noughts":     func(f *fields) { f.again = 0 },
		"the first four bytes are less":       func(f *fields) { f.epoch-- },
		"the first four bytes are more":       func(f *fields) { f.epoch++ },
		"46 bytes":                            func(f *fields) { f.bytes = 46 },
		"47 bytes":                            func(f *fields) { f.bytes = 47 },
		"255 bytes":                           func(f *fields) { f.bytes = 255 },
		"the place ahead":                     func(f *fields) { f.place-- },
		"the place behind":                    func(f *fields) { f.place++ },
		"the place 0, as it stands":           func(f *fields) { f.place = topEpoch },
		"a place in the highest byte":         func(f *fields) { f.place += 1 << 24 },
		"a place in the second byte":          func(f *fields) { f.place += 1 << 16 },
		"a place in the third byte":           func(f *fields) { f.place += 1 << 8 },
		"the part ahead":                      func(f *fields) { f.part-- },
		"the part behind":                     func(f *fields) { f.part++ },
		"part 128":                            func(f *fields) { f.part += 128 },
		"no parts":                            func(f *fields) { f.many = 0 },
		"93 parts":                            func(f *fields) { f.many = 93 },
		"255 parts":                           func(f *fields) { f.many = 255 },
		"fewer parts":                         func(f *fields) { f.many-- },
		"more parts":                          func(f *fields) { f.many++ },
		"a part without bytes":                func(f *fields) { f.bytes = 0 },
		"a part without bytes, all noughts":   func(f *fields) { f.bytes, f.data = 0, nil },
		"an older epoch":                      func(f *fields) { f.epoch, f.again = f.epoch-1, f.again-1 },
		"a newer epoch":                       func(f *fields) { f.epoch, f.again = f.epoch+1, f.again+1 },
		"an epoch that is 256 older":          func(f *fields) { f.epoch, f.again = f.epoch-256, f.again-256 },
		"an epoch that differs in the first":  func(f *fields) { f.epoch, f.again = f.epoch+1<<24, f.again+1<<24 },
		"an epoch that differs in the second": func(f *fields) { f.epoch, f.again = f.epoch+1<<16, f.again+1<<16 },
	}
}

// P7.1: a record of three parts of which any one is spoiled ends the records; those ahead stand, those behind don't, and the next one goes to its place.
func TestOpenOfSpoiledParts(t *testing.T) {
	records := [][]byte{someBytes(60, 1), nil, someBytes(100, 2), []byte("behind")}
	for name, change := range spoils() {
		for part := range 3 {
			l := recordsOf(1000, records...)
			change(&l[3+part])
			d := laid(t, append(blocksOf(l), noughts(3)...)...)
			what := fmt.Sprintf("%s, of part %d", name, part)
			s := finds(t, what, d, 3, records[:2]...)
			goesOn(t, what, d, s, 3, records[:2])
		}
	}
}

// goesOn appends records of one part to an opened segment that has these and so many blocks, and says that what stood behind is gone then.
func goesOn(t *testing.T, what string, d *disk.Disk, s *segment.Segment, used int, records [][]byte) {
	t.Helper()
	want := slices.Clone(records)
	for k := range s.Free() {
		r := someBytes(k, 77)
		appends(t, s, r)
		syncs(t, s)
		want = append(want, r)
		finds(t, what+", and goes on", d, used+k+1, want...)
	}
}

// P7.1: of a row of records of one part any one is spoiled: some of these stand, with another epoch, or without bytes, and end those behind, or don't.
func TestOpenOfSpoiledRecords(t *testing.T) {
	records := [][]byte{[]byte("a"), []byte("b"), []byte("c"), []byte("d")}
	for name, change := range spoils() {
		for k := range records {
			l := recordsOf(1000, records...)
			change(&l[k])
			want, used := taken(blocksOf(l))
			finds(t, fmt.Sprintf("%s, of record %d", name, k), laid(t, blocksOf(l)...), used, want...)
		}
	}
}

// P7.1: with any bit of any block turned the sum, or the last four bytes, are wrong: its record ends the records.
func TestOpenOfTurnedBits(t *testing.T) {
	records := [][]byte{[]byte("ahead"), someBytes(50, 1), []byte("behind")}
	blocks := blocksOf(recordsOf(9, records...))
	for at, many := range []int{0, 1, 1, 2} {
		used := []int{0, 1, 3}[many]
		for bit := range 8 * size {
			l := slices.Clone(blocks)
			l[at] = bytes.Clone(l[at])
			l[at][bit/8] ^= 1 << (bit % 8)
			s, e := segment.Open(laid(t, l...), 0, 4)
			isErr(t, "a bit turned", e, api.OK)
			is(t, fmt.Sprintf("bit %d of block %d turned", bit, at), s, many, many, 4-used)
		}
	}
}

// P7.1: a sum that is that of other bytes than the first 56 is wrong.
func TestOpenOfSumsOfOtherBytes(t *testing.T) {
	right := recordsOf(5, []byte("a"))[0].block()
	finds(t, "right", laid(t, right), 1, []byte("a"))
	for from := range 5 {
		for to := 50; to <= 56; to++ {
			if from == 0 && to == 56 {
				continue
			}
			b := bytes.Clone(right)
			copy(b[56:60], sealed(right[from:to])[to-from:])
			finds(t, "a sum of other bytes", laid(t, b), 0)
		}
	}
	b := bytes.Clone(right)
	slices.Reverse(b[56:60])
	finds(t, "a sum the other way round", laid(t, b), 0)
	b = append(right[:56:56], right[60:]...)
	finds(t, "a sum that stands behind the last four bytes", laid(t, append(b, right[56:60]...)), 0)
}

// P7.1: a part that isn't the last one has 45 bytes; the last one may have fewer, and none only if it is the only one.
func TestOpenOfShortParts(t *testing.T) {
	record := someBytes(4*partSize, 1)
	for part := range 4 {
		for n := range partSize + 1 {
			l := partsOf(3, 0, record)
			l[part].bytes = n
			d := laid(t, blocksOf(l)...)
			what := fmt.Sprintf("part %d of 4 has %d bytes", part, n)
			switch {
			case n == partSize:
				finds(t, what, d, 4, record)
			case part == 3 && n > 0:
				finds(t, what, d, 4, record[:3*partSize+n])
			default:
				finds(t, what, d, 0)
			}
		}
	}
	for n := range partSize + 1 {
		f := partsOf(3, 0, record[:partSize])[0]
		f.bytes = n
		finds(t, "the only part", laid(t, f.block()), 1, record[:n])
	}
}

// P7.1: a block is right, whatever stands behind the part.
func TestOpenOfNoNoughts(t *testing.T) {
	l := partsOf(3, 0, someBytes(partSize+5, 1))
	l[1].data = append(bytes.Clone(l[1].data), someBytes(40, 9)...)
	only := fields{epoch: 3, place: 1, many: 1, data: someBytes(45, 8), again: 3}
	finds(t, "no noughts", laid(t, append(blocksOf(l), only.block())...), 3, someBytes(partSize+5, 1), nil)
}

// P7.1: blocks by chance, most of them near to right ones, held against the document's words.
func TestOpenByChance(t *testing.T) {
	for seed := range 4000 {
		r := rand.New(rand.NewSource(int64(seed)))
		var l []fields
		epoch := uint32(300)
		for k := range 5 {
			epoch += uint32(r.Intn(2))
			l = append(l, partsOf(epoch, k, someBytes(r.Intn(150), seed))...)
		}
		blocks := blocksOf(l)
		for range r.Intn(3) {
			spoilByChance(r, l, blocks)
		}
		want, used := taken(blocks)
		finds(t, fmt.Sprint("seed ", seed), laid(t, blocks...), used, want...)
		if t.Failed() {
			t.Fatalf("seed %d", seed)
		}
	}
}

// spoilByChance changes one of some blocks, mostly with a right sum.
func spoilByChance(r *rand.Rand, l []fields, blocks [][]byte) {
	i, j := r.Intn(len(l)), r.Intn(len(l))
	f := &l[i]
	switch r.Intn(9) {
	case 0:
		f.epoch = uint32(299 + r.Intn(5))
		f.again = f.epoch
	case 1:
		f.again = uint32(299 + r.Intn(5))
	case 2:
		f.place = uint32(r.Intn(6))
	case 3:
		f.part = r.Intn(5)
	case 4:
		f.many = r.Intn(5)
	case 5:
		f.bytes = r.Intn(50)
	case 6:
		l[i], l[j] = l[j], l[i]
		blocks[j] = l[j].block()
	case 7:
		blocks[i] = make([]byte, size)
		return
	default:
		blocks[i] = bytes.Clone(blocks[i])
		blocks[i][r.Intn(size)] ^= byte(1 + r.Intn(255))
		return
	}
	blocks[i] = l[i].block()
}

// P7.2: Append writes a record's parts in order behind the records, as the document words a block, and syncs nothing.
func TestAppend(t *testing.T) {
	records := [][]byte{[]byte("a"), nil, someBytes(45, 1), someBytes(46, 2), {}, someBytes(90, 3), someBytes(91, 4), make([]byte, 100), bytes.Repeat([]byte{255}, 47), {0}}
	for from := range 3 {
		d := fresh(t, 30)
		s := open(t, d, from, 25)
		want := noughts(30)
		used := 0
		for k, r := range records {
			appends(t, s, r)
			for _, b := range blocksOf(partsOf(1, k, r)) {
				want[from+used] = b
				used++
			}
			isInt(t, "how many wait", d.Waits(), used)
			is(t, "Append", s, k+1, 0, 25-used)
			holds(t, "Append", s, 0, records[:k+1]...)
			for i, b := range want {
				isBlock(t, fmt.Sprintf("from %d, behind %d records", from, k+1), d, i, b)
			}
		}
		syncs(t, s)
		isInt(t, "how many wait", d.Waits(), 0)
		d.Crash(nil)
		is(t, "opened again", open(t, d, from, 25), len(records), len(records), 25-used)
		holds(t, "opened again", open(t, d, from, 25), 0, records...)
	}
}

// P7.2: the example's block, byte by byte.
func TestAppendByteByByte(t *testing.T) {
	d := fresh(t, 3)
	s := open(t, d, 0, 3)
	appends(t, s, []byte("ab"))
	sum := crc32.Checksum(append([]byte{0, 0, 0, 1, 0, 0, 0, 1, 0, 1, 2, 'a', 'b'}, make([]byte, 43)...), crc32.MakeTable(crc32.Castagnoli))
	want := append([]byte{0, 0, 0, 1, 0, 0, 0, 1, 0, 1, 2, 'a', 'b'}, make([]byte, 43)...)
	want = append(want, byte(sum>>24), byte(sum>>16), byte(sum>>8), byte(sum), 0, 0, 0, 1)
	isBlock(t, "ab", d, 0, want)
	appends(t, s, append(make([]byte, 45), 7))
	b, _ := d.Read(2)
	if !bytes.Equal(b[:12], []byte{0, 0, 0, 1, 0, 0, 0, 2, 1, 2, 1, 7}) || !bytes.Equal(b[12:56], make([]byte, 44)) {
		t.Errorf("the second part: got % d", b)
	}
}

// P7.2: the parts are written in their order, record by record: so many writes, from the first one on, are what a stop and a crash leave.
func TestAppendWritesInOrder(t *testing.T) {
	records := [][]byte{someBytes(130, 1), nil, someBytes(60, 2)}
	blocks := blocksOf(recordsOf(1, records...))
	for left := range len(blocks) + 1 {
		d := fresh(t, 6)
		s := open(t, d, 0, 6)
		for _, r := range records {
			appends(t, s, r)
		}
		d.Crash(append(bytes.Repeat([]byte{64}, left), 20))
		want := slices.Concat(blocks[:left], noughts(6-left))
		if left < len(blocks) {
			copy(want[left], blocks[left][:20])
		}
		for i, b := range want {
			isBlock(t, fmt.Sprintf("%d writes are left", left), d, i, b)
		}
	}
	for at := range 3 {
		d := fresh(t, 6)
		s := open(t, d, 0, 6)
		d.Stop(at)
		refuses(t, "it stops", s, records[0], api.ErrDown)
		d.Crash(bytes.Repeat([]byte{64}, 6))
		for i, b := range slices.Concat(blocks[:at], noughts(6-at)) {
			isBlock(t, fmt.Sprintf("it stops at write %d", at), d, i, b)
		}
	}
}

// P7.2: places above a byte are told as they are, and stand with the highest byte first.
func TestAppendOfManyRecords(t *testing.T) {
	d := fresh(t, 65536)
	s := open(t, d, 0, 65536)
	for k := range 65536 {
		if got, e := s.Append([]byte{byte(k), byte(k >> 8)}); got != k || e != api.OK {
			t.Fatalf("Append %d: got %d, error %d", k, got, e)
		}
		if k%256 == 0 {
			isErr(t, "Sync", s.Sync(), api.OK)
		}
	}
	syncs(t, s)
	is(t, "many", s, 65536, 65536, 0)
	refuses(t, "many", s, nil, api.ErrSpace)
	for _, k := range []int{254, 255, 256, 65534, 65535} {
		isBlock(t, "many", d, k, partsOf(1, k, []byte{byte(k), byte(k >> 8)})[0].block())
	}
	s = open(t, d, 0, 65536)
	is(t, "many, opened again", s, 65536, 65536, 0)
	for k := range 65536 {
		reads(t, "many, opened again", s, k, []byte{byte(k), byte(k >> 8)})
	}
}

// P7.2: records of all lengths are read as they were, right away, synced, and opened again.
func TestAppendOfAllLengths(t *testing.T) {
	for n := range 300 {
		isKept(t, n)
	}
	for n := 4040; n <= mostBytes; n++ {
		isKept(t, n)
	}
}

// isKept appends a record of n bytes, with another one behind it.
func isKept(t *testing.T, n int) {
	t.Helper()
	d := fresh(t, 100)
	s := open(t, d, 2, 97)
	records := [][]byte{someBytes(n, 5), []byte("behind")}
	appends(t, s, records[0])
	appends(t, s, records[1])
	holds(t, fmt.Sprintf("%d bytes", n), s, 0, records...)
	syncs(t, s)
	d.Crash([]byte{64, 64})
	s = open(t, d, 2, 97)
	is(t, fmt.Sprintf("%d bytes, opened again", n), s, 2, 2, 97-len(recordsOf(0, records...)))
	holds(t, fmt.Sprintf("%d bytes, opened again", n), s, 0, records...)
}

// P7.2: a record of more than 4096 bytes is refused; nothing is written, and the error doesn't stay.
func TestAppendOfTooMany(t *testing.T) {
	d := fresh(t, 300)
	s := open(t, d, 0, 300)
	for _, n := range []int{4097, 4098, 4140, 4141, 65536, 65536 + 10, 1 << 20} {
		refuses(t, "too many", s, make([]byte, n), api.ErrBig)
		isInt(t, "how many wait", d.Waits(), 0)
	}
	appends(t, s, someBytes(4096, 1))
	isInt(t, "how many wait", d.Waits(), 92)
	refuses(t, "too many", s, make([]byte, 4097), api.ErrBig)
	appends(t, s, nil)
	syncs(t, s)
	finds(t, "beside too many", d, 93, someBytes(4096, 1), nil)
}

// P7.2: a record may fill the last block that is free; one that needs a block more is refused, writes nothing, and the error doesn't stay.
func TestAppendOfTheLastBlocks(t *testing.T) {
	for free := range 6 {
		for parts := 1; parts <= 7; parts++ {
			for _, n := range []int{parts*partSize - 44, parts * partSize} {
				d := fresh(t, 20)
				s := open(t, d, 3, 10)
				for range 10 - free {
					appends(t, s, nil)
				}
				waits := d.Waits()
				if parts > free {
					refuses(t, "no room", s, someBytes(n, 1), api.ErrSpace)
					isInt(t, "how many wait", d.Waits(), waits)
				} else {
					appends(t, s, someBytes(n, 1))
					isInt(t, "how many wait", d.Waits(), waits+parts)
				}
				for s.Free() > 0 {
					appends(t, s, []byte("x"))
				}
				refuses(t, "full", s, nil, api.ErrSpace)
				refuses(t, "full", s, []byte{}, api.ErrSpace)
				syncs(t, s)
				for i := 13; i < 20; i++ {
					isBlock(t, "behind the region", d, i, make([]byte, size))
				}
			}
		}
	}
}

// P7.2: what is told first of a record that is wrong in two ways.
func TestAppendOfTwoFaults(t *testing.T) {
	d := fresh(t, 10)
	s := open(t, d, 0, 2)
	refuses(t, "too many, and no room", s, make([]byte, 4097), api.ErrBig)
	refuses(t, "no room", s, make([]byte, 4096), api.ErrSpace)
	d.Stop(0)
	isErr(t, "disk.Sync", d.Sync(), api.ErrDown)
	refuses(t, "too many, and down", s, make([]byte, 4097), api.ErrBig)
	refuses(t, "no room, and down", s, make([]byte, 91), api.ErrSpace)
	d.Crash(nil)
	appends(t, s, []byte("no error stays yet"))
	d.Stop(0)
	refuses(t, "down", s, []byte("b"), api.ErrDown)
	refuses(t, "too many, and an error stays", s, make([]byte, 4097), api.ErrBig)
	refuses(t, "an error stays, and no room", s, make([]byte, 4096), api.ErrDown)
	var none *segment.Segment
	refuses(t, "nil, and too many", none, make([]byte, 4097), api.ErrArg)
}

// P7.2: all records are sure behind Sync, which is one call that counts, also where nothing waits.
func TestSync(t *testing.T) {
	d := fresh(t, 10)
	s := open(t, d, 0, 10)
	syncs(t, s)
	is(t, "nothing", s, 0, 0, 10)
	appends(t, s, []byte("a"))
	appends(t, s, someBytes(50, 1))
	is(t, "not synced", s, 2, 0, 7)
	syncs(t, s)
	is(t, "synced", s, 2, 2, 7)
	isInt(t, "how many wait", d.Waits(), 0)
	appends(t, s, nil)
	is(t, "one more", s, 3, 2, 6)
	d.Stop(2)
	syncs(t, s)
	syncs(t, s)
	is(t, "synced again", s, 3, 3, 6)
	isErr(t, "the Sync at which it stops", s.Sync(), api.ErrDown)
	if !d.Down() {
		t.Error("Sync made no call that counts")
	}
}

// P7.2: where the disk stops at any one of a record's writes, that error stays, and nothing of the record is there, not even behind a crash that leaves all writes.
func TestStopAtEachWrite(t *testing.T) {
	for parts := 1; parts <= 5; parts++ {
		for at := range parts {
			for _, left := range []byte{0, 30, 64} {
				d := fresh(t, 20)
				s := open(t, d, 0, 20)
				records := [][]byte{[]byte("sure"), someBytes(60, 1), []byte("not sure")}
				appends(t, s, records[0])
				appends(t, s, records[1])
				syncs(t, s)
				appends(t, s, records[2])
				d.Stop(at)
				refuses(t, "it stops", s, someBytes(parts*partSize, 2), api.ErrDown)
				isInt(t, "how many wait", d.Waits(), 1+at)
				staysDown(t, s, records, 2, 16)
				d.Crash(bytes.Repeat([]byte{left}, 10))
				staysDown(t, s, records, 2, 16)
				isInt(t, "how many wait", d.Waits(), 0)
				if left == 64 {
					finds(t, "opened again", d, 4, records...)
				} else {
					finds(t, "opened again", d, 3, records[:2]...)
				}
			}
		}
	}
}

// staysDown says that ErrDown stays, and what is told behind it: these records, so many of which are sure, and so many blocks free.
func staysDown(t *testing.T, s *segment.Segment, records [][]byte, sure, free int) {
	t.Helper()
	for range 3 {
		refuses(t, "it stays", s, []byte("a"), api.ErrDown)
		refuses(t, "it stays", s, nil, api.ErrDown)
		refuses(t, "it stays", s, make([]byte, 4096), api.ErrDown)
		refuses(t, "it stays", s, make([]byte, 4097), api.ErrBig)
		isErr(t, "it stays: Sync", s.Sync(), api.ErrDown)
		is(t, "it stays", s, len(records), sure, free)
		holds(t, "it stays", s, s.Trim(0), records...)
	}
}

// P7.2: where the disk stops at a Sync, that error stays; the records are there, but none more is sure, till it is opened anew.
func TestStopAtSync(t *testing.T) {
	records := [][]byte{[]byte("a"), someBytes(100, 1), nil}
	for sure := range 4 {
		for _, left := range []byte{0, 64} {
			d := fresh(t, 10)
			s := open(t, d, 0, 10)
			for _, r := range records[:sure] {
				appends(t, s, r)
			}
			syncs(t, s)
			for _, r := range records[sure:] {
				appends(t, s, r)
			}
			d.Stop(0)
			isErr(t, "the Sync at which it stops", s.Sync(), api.ErrDown)
			staysDown(t, s, records, sure, 5)
			d.Crash(bytes.Repeat([]byte{left}, 10))
			staysDown(t, s, records, sure, 5)
			isInt(t, "Trim of more than is sure", s.Trim(3), sure)
			staysDown(t, s, records, sure, 5)
			there := sure
			if left == 64 {
				there = 3
			}
			s = finds(t, "opened again", d, len(recordsOf(1, records[:there]...)), records[:there]...)
			appends(t, s, []byte("goes on"))
			syncs(t, s)
		}
	}
}

// P7.2: the first error stays, whatever the disk would tell behind it; each segment has its own.
func TestTheFirstErrorStays(t *testing.T) {
	d, spare := fresh(t, 10), fresh(t, 10)
	s, other := open(t, d, 0, 5), open(t, d, 5, 5)
	whole := *d
	*d = disk.Disk{}
	refuses(t, "a disk without blocks", s, []byte("a"), api.ErrRange)
	d.Stop(0)
	refuses(t, "the first one", s, []byte("a"), api.ErrRange)
	isErr(t, "the first one: Sync", s.Sync(), api.ErrRange)
	if d.Down() {
		t.Error("behind an error a call reached the disk")
	}
	*d = whole
	refuses(t, "the first one", s, []byte("a"), api.ErrRange)
	isErr(t, "the first one: Sync", s.Sync(), api.ErrRange)
	isInt(t, "how many wait", d.Waits(), 0)
	appends(t, other, []byte("b"))
	syncs(t, other)
	d.Stop(0)
	isErr(t, "the other one: Sync", other.Sync(), api.ErrDown)
	isErr(t, "the first one: Sync", s.Sync(), api.ErrRange)
	d.Crash(nil)
	isErr(t, "the other one: Sync", other.Sync(), api.ErrDown)
	s = open(t, d, 0, 5)
	appends(t, s, []byte("anew"))
	syncs(t, s)
	is(t, "a disk of its own", open(t, spare, 0, 5), 0, 0, 5)
}

// P7.3: the errors of Read, in their order, and the places that there are.
func TestRead(t *testing.T) {
	d := fresh(t, 10)
	s := open(t, d, 0, 10)
	for _, k := range append(farInts(), 0, 1) {
		refusesRead(t, "nothing", s, k, api.ErrRange)
	}
	records := [][]byte{[]byte("a"), nil, someBytes(91, 1), []byte("d")}
	for _, r := range records {
		appends(t, s, r)
	}
	holds(t, "not synced", s, 0, records...)
	syncs(t, s)
	for gone := range 5 {
		isInt(t, "Trim", s.Trim(gone), gone)
		holds(t, "given up", s, gone, records...)
		for _, k := range append(farInts(), 4, 5) {
			refusesRead(t, "no such place", s, k, api.ErrRange)
		}
		is(t, "given up", s, 4, 4, 4)
	}
}

// P7.3: as many as are asked for are given up, but not fewer than were, nor more than are sure.
func TestTrim(t *testing.T) {
	d := fresh(t, 20)
	s := open(t, d, 0, 20)
	for _, k := range append(farInts(), 0, 1) {
		isInt(t, "Trim of nothing", s.Trim(k), 0)
	}
	var records [][]byte
	for k := range 6 {
		records = append(records, someBytes(20*k, k))
		appends(t, s, records[k])
	}
	isInt(t, "nothing is sure", s.Trim(3), 0)
	holds(t, "nothing is sure", s, 0, records...)
	syncs(t, s)
	records = append(records, []byte("g"), []byte("h"))
	appends(t, s, records[6])
	appends(t, s, records[7])
	free := s.Free()
	for _, c := range [][2]int{{-1, 0}, {math.MinInt, 0}, {0, 0}, {2, 2}, {1, 2}, {2, 2}, {0, 2}, {-1, 2}, {3, 3}, {5, 5}, {4, 5}, {7, 6}, {6, 6}, {8, 6}, {math.MaxInt, 6}, {-5, 6}} {
		isInt(t, fmt.Sprint("Trim of ", c[0]), s.Trim(c[0]), c[1])
		is(t, "Trim", s, 8, 6, free)
		holds(t, "Trim", s, c[1], records...)
	}
	syncs(t, s)
	isInt(t, "more is sure", s.Trim(-1), 6)
	isInt(t, "more is sure", s.Trim(7), 7)
	isInt(t, "more is sure", s.Trim(9), 8)
	is(t, "all are given up", s, 8, 8, free)
	records = append(records, []byte("i"))
	appends(t, s, records[8])
	holds(t, "one more", s, 8, records...)
	isInt(t, "one more", s.Trim(9), 8)
}

// P7.3: what is given up is so till the segment is opened anew: nothing of it stands on the disk.
func TestTrimStandsNowhere(t *testing.T) {
	d := fresh(t, 10)
	s := open(t, d, 0, 10)
	records := [][]byte{[]byte("a"), someBytes(50, 1), []byte("c")}
	for _, r := range records {
		appends(t, s, r)
	}
	syncs(t, s)
	want := blocksAt(t, d, 0, 10)
	isInt(t, "Trim", s.Trim(2), 2)
	isInt(t, "how many wait", d.Waits(), 0)
	for i, b := range want {
		isBlock(t, "Trim", d, i, b)
	}
	d.Crash(nil)
	s = finds(t, "opened again", d, 4, records...)
	isInt(t, "opened again", s.Trim(0), 0)
}

// P7.2, P7.3: what was handed in is a copy, and isn't changed; what is read is in new memory.
func TestNothingIsShared(t *testing.T) {
	for _, n := range []int{0, 1, 44, 45, 46, 90, 91, 200} {
		for room := range 3 {
			d := fresh(t, 20)
			s := open(t, d, 0, 20)
			whole := someBytes(n+room, 1)
			kept := bytes.Clone(whole)
			appends(t, s, whole[:n])
			if !bytes.Equal(whole, kept) {
				t.Errorf("what was handed in is % d now", whole)
			}
			spoil(whole)
			reads(t, "what was handed in is changed", s, 0, kept[:n])
			syncs(t, s)
			finds(t, "what was handed in is changed", d, segment.Need(n), kept[:n])
			for _, x := range []*segment.Segment{s, open(t, d, 0, 20)} {
				one, other := reads(t, "one", x, 0, kept[:n]), reads(t, "other", x, 0, kept[:n])
				spoil(one)
				_ = append(one, 1, 2, 3)
				if !bytes.Equal(other, kept[:n]) {
					t.Error("two answers share bytes")
				}
				spoil(reads(t, "an answer is changed", x, 0, kept[:n]))
				reads(t, "an answer is changed", x, 0, kept[:n])
				appends(t, x, []byte("more"))
				if !bytes.Equal(other, kept[:n]) {
					t.Error("an answer is another one now")
				}
			}
		}
	}
}

// P7.3: what is read is what was appended, or stood there at Open, also while the disk is down, and when its blocks are written over.
func TestReadAsksNoDisk(t *testing.T) {
	d := fresh(t, 6)
	records := [][]byte{[]byte("a"), someBytes(90, 1)}
	s := open(t, d, 0, 6)
	appends(t, s, records[0])
	appends(t, s, records[1])
	syncs(t, s)
	again := open(t, d, 0, 6)
	write(t, d, 0, noughts(6)...)
	for _, x := range []*segment.Segment{s, again} {
		is(t, "written over", x, 2, 2, 3)
		holds(t, "written over", x, 0, records...)
	}
	d.Stop(0)
	isErr(t, "disk.Sync", d.Sync(), api.ErrDown)
	for _, x := range []*segment.Segment{s, again} {
		is(t, "down", x, 2, 2, 3)
		holds(t, "down", x, 0, records...)
		isInt(t, "down", x.Trim(1), 1)
		holds(t, "down", x, 1, records...)
	}
}

// P7.2, P7.3: what is told of nil, whatever else is wrong; a segment that Open didn't make has no room, and no call of it panics.
func TestNil(t *testing.T) {
	var s *segment.Segment
	for _, k := range append(farInts(), 0, 1, 5) {
		refusesRead(t, "nil", s, k, api.ErrArg)
		isInt(t, "nil: Trim", s.Trim(k), 0)
	}
	for _, n := range []int{0, 1, 45, 46, 4096, 4097, 65536} {
		refuses(t, "nil", s, make([]byte, n), api.ErrArg)
	}
	refuses(t, "nil", s, nil, api.ErrArg)
	isErr(t, "nil: Sync", s.Sync(), api.ErrArg)
	is(t, "nil", s, 0, 0, 0)
	var without segment.Segment
	for range 2 {
		without.Append([]byte("a"))
		without.Sync()
		without.Read(0)
		without.Trim(1)
		is(t, "without Open", &without, 0, 0, 0)
	}
}

// P7.4: records that wait, each write torn at each edge: what is there behind the crash is what was sure, and a front of what waited.
func TestTornWrites(t *testing.T) {
	sure := [][]byte{[]byte("a"), someBytes(60, 1)}
	shapes := [][]int{{1, 1, 1}, {45, 0, 3}, {135}, {50, 9}, {9, 50}, {0, 90}}
	for _, epoch := range []uint32{1, 254, 255, 256, 65535, 1<<24 - 1} {
		for _, shape := range shapes {
			for _, a := range tears() {
				for _, b := range tears() {
					for _, c := range tears() {
						torn(t, epoch, sure, shape, []byte{a, b, c})
					}
				}
			}
		}
		if t.Failed() {
			t.Fatalf("epoch %d", epoch)
		}
	}
}

// torn lays records by hand, appends others of these lengths, and crashes: all that was sure must be there, and just those of the others that went whole.
func torn(t *testing.T, epoch uint32, sure [][]byte, shape []int, pick []byte) {
	t.Helper()
	blocks := blocksOf(recordsOf(epoch, sure...))
	d := laid(t, append(blocks, noughts(6)...)...)
	s := finds(t, "laid", d, 3, sure...)
	want, used := slices.Clone(sure), 3
	whole, at := true, 0
	for k, n := range shape {
		r := someBytes(n, 10+k)
		appends(t, s, r)
		parts := segment.Need(n)
		for range parts {
			whole = whole && isWhole(epoch+1, int(pick[at]))
			at++
		}
		if whole {
			want, used = append(want, r), used+parts
		}
	}
	d.Crash(pick)
	s = finds(t, fmt.Sprintf("epoch %d, %d torn at %d", epoch, shape, pick), d, used, want...)
	appends(t, s, []byte("goes on"))
	syncs(t, s)
	finds(t, fmt.Sprintf("epoch %d, %d torn at %d, gone on", epoch, shape, pick), d, used+1, append(want, []byte("goes on"))...)
}

// isWhole tells whether a write of an epoch that was cut off over noughts is as if it was not: what is missing is noughts, too.
func isWhole(epoch uint32, many int) bool {
	return many >= 60 && uint64(epoch)%(1<<(8*(64-many))) == 0
}

// P7.4: a record behind one that was lost isn't there; neither is it, behind another crash, behind one that was laid in the lost one's stead.
func TestRecordsBehindALostOne(t *testing.T) {
	for _, tear := range tears()[:7] {
		for behind := 1; behind < 4; behind++ {
			d := fresh(t, 12)
			s := open(t, d, 0, 12)
			appends(t, s, []byte("sure"))
			syncs(t, s)
			appends(t, s, []byte("lost"))
			for k := range behind {
				appends(t, s, someBytes(60, k))
			}
			d.Crash(append([]byte{tear}, bytes.Repeat([]byte{64}, 2*behind)...))
			s = finds(t, "behind a lost one", d, 1, []byte("sure"))
			appends(t, s, []byte("other"))
			d.Crash([]byte{64})
			s = finds(t, "in its stead", d, 2, []byte("sure"), []byte("other"))
			appends(t, s, someBytes(60, 9))
			d.Crash([]byte{64, 0})
			s = finds(t, "half of one, with an old half behind", d, 2, []byte("sure"), []byte("other"))
			appends(t, s, someBytes(60, 8))
			syncs(t, s)
			finds(t, "a whole one", d, 4, []byte("sure"), []byte("other"), someBytes(60, 8))
		}
	}
}

// P7.4: a record that was torn ahead of its last bytes isn't there where the blocks that it was laid over had an epoch near its own.
func TestTornOverOlderRecords(t *testing.T) {
	for _, epoch := range []uint32{0, 1, 255, 256, 257, 511, 65535, 65536, 1<<24 - 1, 1 << 24} {
		for tear := range 65 {
			for _, front := range []byte{0, 64} {
				d := laid(t, blocksOf(recordsOf(epoch, []byte("sure"), []byte("old"), []byte("older")))...)
				b, _ := d.Read(1)
				b[30]++ // the old ones end here
				write(t, d, 1, b)
				isErr(t, "disk.Sync", d.Sync(), api.OK)
				s := finds(t, "spoiled", d, 1, []byte("sure"))
				appends(t, s, []byte("new"))
				appends(t, s, []byte("newer"))
				d.Crash([]byte{front, byte(tear)})
				want := [][]byte{[]byte("sure")}
				if front == 64 {
					want = append(want, []byte("new"))
				}
				if front == 64 && tear == 64 {
					want = append(want, []byte("newer"))
				}
				s = open(t, d, 0, 3)
				if many := s.Len(); many > len(want) { // where the last bytes of both epochs are the same it is whole ahead of 64
					want = append(want, []byte("newer"))
					isBlock(t, "torn, but whole", d, 2, partsOf(epoch+1, 2, []byte("newer"))[0].block())
				}
				holds(t, fmt.Sprintf("epoch %d, torn at %d behind %d", epoch, tear, front), s, 0, want...)
			}
		}
	}
}

// P7.1, P7.4: two segments on one disk, one behind the other: neither knows of the other's records and epochs, but a Sync of one is one of the disk.
func TestBesideAnother(t *testing.T) {
	d := fresh(t, 12)
	a, b := open(t, d, 1, 5), open(t, d, 6, 5)
	appends(t, a, []byte("a0"))
	appends(t, b, someBytes(80, 1))
	appends(t, a, someBytes(50, 2))
	syncs(t, a)
	is(t, "the first one", a, 2, 2, 2)
	is(t, "the other one", b, 1, 0, 3)
	d.Crash(nil)
	a, b = open(t, d, 1, 5), open(t, d, 6, 5)
	holds(t, "the first one", a, 0, []byte("a0"), someBytes(50, 2))
	holds(t, "the other one", b, 0, someBytes(80, 1))
	appends(t, b, []byte("b1"))
	syncs(t, b)
	b = open(t, d, 6, 5)
	appends(t, b, []byte("b2"))
	isBlock(t, "the other one's epoch", d, 9, partsOf(3, 2, []byte("b2"))[0].block())
	appends(t, a, nil)
	isBlock(t, "the first one's epoch", d, 4, partsOf(2, 2, nil)[0].block())
	appends(t, a, []byte("a3"))
	refuses(t, "the first one is full", a, nil, api.ErrSpace)
	d.Crash([]byte{64, 64, 64})
	holds(t, "the first one", open(t, d, 1, 5), 0, []byte("a0"), someBytes(50, 2), nil, []byte("a3"))
	holds(t, "the other one", open(t, d, 6, 5), 0, someBytes(80, 1), []byte("b1"), []byte("b2"))
	isBlock(t, "ahead of both", d, 0, make([]byte, size))
	isBlock(t, "behind both", d, 11, make([]byte, size))
}

// P7.1 to P7.4: calls, stops and crashes by chance, crash by crash, held against what was appended, and against the document's words.
func TestByChance(t *testing.T) {
	for seed := range 1500 {
		r := rand.New(rand.NewSource(int64(seed)))
		from, n := r.Intn(3), 4+r.Intn(20)
		d := fresh(t, from+n+r.Intn(3))
		if r.Intn(3) == 0 { // an epoch that is near to one more byte
			b := fields{epoch: []uint32{253, 65533, 1<<24 - 3}[r.Intn(3)]}.block()
			write(t, d, from+n-1, b)
			isErr(t, "disk.Sync", d.Sync(), api.OK)
		}
		m := &model{s: open(t, d, from, n), free: n}
		for range 12 {
			for range r.Intn(12) {
				m.call(t, r)
			}
			m.crash(t, r, d, from, n)
			if t.Failed() {
				t.Fatalf("seed %d", seed)
			}
		}
	}
}

// model is a segment by the document's words: records that wait, and such as are sure.
type model struct {
	s                *segment.Segment
	records          [][]byte
	sure, gone, free int
	err              api.Errno
}

// call makes one call.
func (m *model) call(t *testing.T, r *rand.Rand) {
	t.Helper()
	switch r.Intn(8) {
	case 0, 1, 2, 3:
		b := someBytes([]int{r.Intn(10), r.Intn(100), 45, 90, 0}[r.Intn(5)], r.Intn(1000))
		m.append(t, b)
	case 4, 5:
		e := m.s.Sync()
		if m.err != api.OK {
			isErr(t, "Sync", e, m.err)
		} else if m.err = e; e == api.OK {
			m.sure = len(m.records)
		}
	case 6:
		k := r.Intn(8) - 1
		m.gone = max(m.gone, min(k, m.sure))
		isInt(t, "Trim", m.s.Trim(k), m.gone)
	default:
		holds(t, "by chance", m.s, m.gone, m.records...)
	}
	is(t, "by chance", m.s, len(m.records), m.sure, m.free)
}

// append appends a record.
func (m *model) append(t *testing.T, b []byte) {
	t.Helper()
	parts := len(partsOf(0, 0, b))
	k, e := m.s.Append(b)
	switch {
	case m.err != api.OK:
		isErr(t, "Append", e, m.err)
	case parts > m.free:
		isErr(t, "Append", e, api.ErrSpace)
	case e != api.OK:
		isErr(t, "Append", e, api.ErrDown)
		m.err = e
	default:
		isInt(t, "Append: the place", k, len(m.records))
		m.records, m.free = append(m.records, b), m.free-parts
	}
}

// crash lets the disk crash, be it down or up, and opens the segment anew.
func (m *model) crash(t *testing.T, r *rand.Rand, d *disk.Disk, from, n int) {
	t.Helper()
	pick := make([]byte, r.Intn(d.Waits()+2))
	for i := range pick {
		pick[i] = []byte{64, 64, tears()[r.Intn(8)], byte(r.Intn(256))}[r.Intn(4)]
	}
	d.Crash(pick)
	want, used := taken(blocksAt(t, d, from, n))
	if len(want) < m.sure || len(want) > len(m.records) {
		t.Errorf("behind a crash there are %d records, of %d, of which %d were sure", len(want), len(m.records), m.sure)
		return
	}
	m.s = open(t, d, from, n)
	holds(t, "behind a crash", m.s, 0, want...)
	holds(t, "behind a crash", m.s, 0, m.records[:len(want)]...)
	is(t, "behind a crash", m.s, len(want), len(want), n-used)
	m.records = slices.Clone(want)
	m.sure, m.gone, m.free, m.err = len(want), 0, n-used, api.OK
	d.Stop(r.Intn(40) - 10)
}
