package sums_test

import (
	"bytes"
	"hash/crc32"
	"testing"

	"notcher/sums"
)

// inWords is the sum just as the document words it, bit by bit.
func inWords(l ...[]byte) uint32 {
	x := uint32(4294967295)
	for _, c := range bytes.Join(l, nil) {
		x ^= uint32(c)
		for range 8 {
			if x%2 == 1 {
				x = x/2 ^ 2197175160
			} else {
				x /= 2
			}
		}
	}
	return 4294967295 - x
}

// someBytes are n bytes that look like chance, the same ones each time.
func someBytes(n int) []byte {
	b := make([]byte, n)
	x := uint32(n) + 1
	for i := range b {
		x = x*1664525 + 1013904223
		b[i] = byte(x >> 24)
	}
	return b
}

// inputs are bytes of many lengths: noughts, ones, and such as look like chance.
func inputs() [][]byte {
	l := [][]byte{nil, {}, []byte("a"), []byte("123456789"), []byte("notcher")}
	for n := range 70 {
		l = append(l, make([]byte, n), bytes.Repeat([]byte{255}, n), someBytes(n))
	}
	return append(l, someBytes(1024), someBytes(65535), someBytes(65536), make([]byte, 100000))
}

// wantSealed is what Sealed must answer, by way of the document's words.
func wantSealed(b []byte) []byte {
	x := inWords(b)
	return append(bytes.Clone(b), byte(x/16777216), byte(x/65536%256), byte(x/256%256), byte(x%256))
}

func isSum(t *testing.T, what string, got, want uint32) {
	t.Helper()
	if got != want {
		t.Errorf("%s: got %d, want %d", what, got, want)
	}
}

func same(t *testing.T, what string, got, want []byte) {
	t.Helper()
	if !bytes.Equal(got, want) {
		t.Errorf("%s: got % d, want % d", what, got, want)
	}
}

func isRight(t *testing.T, what string, b []byte, want bool) {
	t.Helper()
	if got := sums.Right(b); got != want {
		t.Errorf("%s: Right of % d: got %v", what, b, got)
	}
}

// P2.1: sums that are known: the document's example, and those of RFC 3720.
func TestOfOfWhatIsKnown(t *testing.T) {
	up, down := make([]byte, 32), make([]byte, 32)
	for i := range up {
		up[i], down[31-i] = byte(i), byte(i)
	}
	for _, c := range []struct {
		name string
		b    []byte
		want uint32
	}{
		{"nothing", nil, 0},
		{"123456789", []byte("123456789"), 3808858755},
		{"one nought", []byte{0}, 0x527d5351},
		{"32 noughts", make([]byte, 32), 0x8a9136aa},
		{"32 times 255", bytes.Repeat([]byte{255}, 32), 0x62a8ab43},
		{"0 to 31", up, 0x46dd794e},
		{"31 to 0", down, 0x113fdb5c},
	} {
		isSum(t, c.name, sums.Of(c.b), c.want)
	}
}

// P2.1: the document's words, and the library's CRC-32C, agree with Of.
func TestOfIsAsWorded(t *testing.T) {
	table := crc32.MakeTable(crc32.Castagnoli)
	for _, b := range inputs() {
		isSum(t, "Of, by the words", sums.Of(b), inWords(b))
		isSum(t, "Of, by the library", sums.Of(b), crc32.Checksum(b, table))
	}
	for i := range 1 << 16 {
		b := []byte{byte(i >> 8), byte(i)}
		isSum(t, "Of two bytes", sums.Of(b), inWords(b))
		isSum(t, "Of a byte", sums.Of(b[:1]), inWords(b[:1]))
	}
}

// P2.1: no row, and rows without a byte, are nothing.
func TestOfOfNoBytes(t *testing.T) {
	isSum(t, "no row", sums.Of(), 0)
	isSum(t, "nil for rows", sums.Of([][]byte(nil)...), 0)
	isSum(t, "an empty list of rows", sums.Of([][]byte{}...), 0)
	isSum(t, "a nil row", sums.Of(nil...), 0)
	isSum(t, "an empty row", sums.Of([]byte{}), 0)
	isSum(t, "many of them", sums.Of(nil, []byte{}, nil, []byte{}, nil), 0)
	b := []byte("123456789")
	isSum(t, "ahead", sums.Of(nil, []byte{}, b), 3808858755)
	isSum(t, "behind", sums.Of(b, nil, []byte{}), 3808858755)
	isSum(t, "between", sums.Of(b[:4], nil, []byte{}, b[4:]), 3808858755)
}

// P2.1: where a row is cut into several makes no difference.
func TestOfRowsOnEnd(t *testing.T) {
	b := someBytes(40)
	want := inWords(b)
	var single [][]byte
	for i := range len(b) + 1 {
		isSum(t, "two rows", sums.Of(b[:i], b[i:]), want)
		for j := i; j <= len(b); j++ {
			isSum(t, "three rows", sums.Of(b[:i], b[i:j], b[j:]), want)
		}
		if i < len(b) {
			single = append(single, b[i:i+1])
		}
	}
	isSum(t, "a row a byte", sums.Of(single...), want)
}

// P2.1: the order of rows, and that of bytes, makes a difference; so do noughts, ahead and behind.
func TestOfOrder(t *testing.T) {
	a, b := []byte("12345"), []byte("6789")
	isSum(t, "the other way round", sums.Of(b, a), inWords([]byte("678912345")))
	if sums.Of(a, b) == sums.Of(b, a) {
		t.Error("rows the other way round have the same sum")
	}
	if sums.Of([]byte{1, 2}) == sums.Of([]byte{2, 1}) {
		t.Error("bytes the other way round have the same sum")
	}
	seen := map[uint32]int{}
	for n := range 300 {
		x := sums.Of(make([]byte, n))
		if m, ok := seen[x]; ok {
			t.Errorf("%d noughts have the sum of %d", n, m)
		}
		seen[x] = n
	}
}

// P2.1: nothing stays of a sum for the next one, and nothing that is handed in changes.
func TestOfKeepsNothing(t *testing.T) {
	b := someBytes(50)
	kept := bytes.Clone(b)
	rows := [][]byte{b[:20], nil, b[20:]}
	for range 3 {
		isSum(t, "rows", sums.Of(rows...), inWords(kept))
		isSum(t, "other ones", sums.Of([]byte("123456789")), 3808858755)
	}
	same(t, "what was handed in", b, kept)
	same(t, "the first row", rows[0], kept[:20])
	same(t, "the second row", rows[1], nil)
	same(t, "the third row", rows[2], kept[20:])
}

// P2.2: Sealed is what was handed in, and its sum, the highest byte first.
func TestSealed(t *testing.T) {
	// 3808858755 is 227, 6, 146 and 131 by 256.
	same(t, "Sealed", sums.Sealed([]byte("123456789")), []byte("123456789\xe3\x06\x92\x83"))
	for _, b := range inputs() {
		same(t, "Sealed", sums.Sealed(b), wantSealed(b))
		isRight(t, "Sealed", sums.Sealed(b), true)
	}
}

// P2.2: Sealed of no bytes is the sum alone, four noughts.
func TestSealedOfNoBytes(t *testing.T) {
	same(t, "Sealed of nil", sums.Sealed(nil), make([]byte, 4))
	same(t, "Sealed of none", sums.Sealed([]byte{}), make([]byte, 4))
	room := []byte{1, 2, 3, 4, 5, 6, 7, 8}
	same(t, "Sealed of none, with room behind", sums.Sealed(room[:0]), make([]byte, 4))
	same(t, "the room", room, []byte{1, 2, 3, 4, 5, 6, 7, 8})
}

// P2.2: Sealed is in new memory, whatever room the bytes that are handed in have behind them.
func TestSealedIsInNewMemory(t *testing.T) {
	for room := range 12 {
		for n := range 12 {
			whole := someBytes(n + room)
			kept := bytes.Clone(whole)
			a, b := sums.Sealed(whole[:n]), sums.Sealed(whole[:n])
			same(t, "what was handed in, and the room", whole, kept)
			for i := range a {
				a[i] ^= 255
			}
			_ = append(a, 77, 77, 77, 77)
			same(t, "what was handed in, once an answer changed", whole, kept)
			same(t, "another answer", b, wantSealed(kept[:n]))
			for i := range whole {
				whole[i] ^= 255
			}
			same(t, "an answer, once what was handed in changed", b, wantSealed(kept[:n]))
		}
	}
}

// P2.2: fewer than four bytes are not right, whatever they are; neither are fewer of what is sealed.
func TestRightOfFewBytes(t *testing.T) {
	isRight(t, "nil", nil, false)
	isRight(t, "none", []byte{}, false)
	for n := range 4 {
		isRight(t, "noughts", make([]byte, n), false)
		isRight(t, "255s", bytes.Repeat([]byte{255}, n), false)
		isRight(t, "noughts, with noughts behind", make([]byte, 8)[:n], false)
	}
	for i := range 1 << 16 {
		isRight(t, "a byte", []byte{byte(i)}, false)
		isRight(t, "two bytes", []byte{byte(i >> 8), byte(i)}, false)
	}
	sealed := sums.Sealed([]byte("ab"))
	for n := range sealed {
		isRight(t, "what is sealed, cut short", sealed[:n], false)
	}
}

// P2.2: of all four bytes, just those of the sum of nothing are right.
func TestRightOfFourBytes(t *testing.T) {
	isRight(t, "four noughts", make([]byte, 4), true)
	isRight(t, "four noughts, cut off more", someBytes(8)[4:], false)
	isRight(t, "four 255s", []byte{255, 255, 255, 255}, false)
	for bit := range 32 {
		b := make([]byte, 4)
		b[bit/8] ^= 1 << (bit % 8)
		isRight(t, "noughts, a bit turned", b, false)
	}
}

// P2.2: what is sealed twice is right, and is right once more without its last four.
func TestRightOfWhatIsSealedTwice(t *testing.T) {
	for _, b := range inputs()[:60] {
		once := sums.Sealed(b)
		twice := sums.Sealed(once)
		same(t, "sealed twice", twice, wantSealed(wantSealed(b)))
		isRight(t, "sealed twice", twice, true)
		isRight(t, "sealed twice, without the last four", twice[:len(twice)-4], true)
		isRight(t, "sealed three times", sums.Sealed(twice), true)
	}
}

// P2.2: with a bit of the four bytes turned, or with the four in another order, it is not right.
func TestRightOfSpoiledSums(t *testing.T) {
	for _, b := range [][]byte{nil, []byte("a"), []byte("123456789"), someBytes(100)} {
		n := len(b)
		for bit := range 32 {
			s := sums.Sealed(b)
			s[n+bit/8] ^= 1 << (bit % 8)
			isRight(t, "a bit of the sum turned", s, false)
		}
		s := sums.Sealed(b)
		for i := range 4 {
			s[n+i] ^= 255
		}
		isRight(t, "each bit of the sum turned", s, false)
		s = sums.Sealed(b)
		s[n], s[n+1], s[n+2], s[n+3] = s[n+3], s[n+2], s[n+1], s[n]
		isRight(t, "the lowest byte first", s, n == 0)
		isRight(t, "a nought behind", append(sums.Sealed(b), 0), false)
	}
}

// P2.2: Right changes nothing, and looks at nothing behind.
func TestRightKeepsToItsBytes(t *testing.T) {
	whole := append(sums.Sealed(someBytes(9)), 1, 2, 3)
	kept := bytes.Clone(whole)
	isRight(t, "with room behind", whole[:13], true)
	isRight(t, "all of it", whole, false)
	same(t, "what was handed in", whole, kept)
}

// turned is a copy in which bits from a place on are turned: those that are 1 in mask. Bits count as the sum takes them, the lowest of each byte first.
func turned(b []byte, at int, mask uint32) []byte {
	c := bytes.Clone(b)
	for i := range 32 {
		if mask>>i&1 == 1 {
			c[(at+i)/8] ^= 1 << ((at + i) % 8)
		}
	}
	return c
}

// masks are bits on end: each width up to 32, full, at its ends alone, and with what looks like chance between.
func masks() []uint32 {
	l := []uint32{2197175160}
	x := uint32(1)
	for width := 1; width <= 32; width++ {
		full := uint32(1<<width - 1)
		ends := uint32(1) | 1<<(width-1)
		l = append(l, full, ends)
		for range 8 {
			x = x*1664525 + 1013904223
			l = append(l, x>>(32-width)|ends)
		}
	}
	return l
}

// P2.3: up to 32 bits on end that are changed change the sum, and are found out.
func TestBitsOnEndChangeTheSum(t *testing.T) {
	for _, b := range [][]byte{someBytes(4), someBytes(12), make([]byte, 9), someBytes(40)} {
		sum, sealed := sums.Of(b), sums.Sealed(b)
		for at := range 8*len(b) - 31 {
			for _, m := range masks() {
				if sums.Of(turned(b, at, m)) == sum {
					t.Fatalf("% d: from bit %d on, %032b turned: the same sum", b, at, m)
				}
				if sums.Right(turned(sealed, at, m)) {
					t.Fatalf("% d: from bit %d on, %032b turned: Right", b, at, m)
				}
			}
		}
	}
}

// P2.3: changes at the very end, of fewer bits than 32, and in the middle of many bytes.
func TestBitsAtTheEndsChangeTheSum(t *testing.T) {
	for n := 1; n < 6; n++ {
		b := someBytes(n)
		for at := range 8 * n {
			for width := 1; width <= 32 && at+width <= 8*n; width++ {
				if sums.Of(turned(b, at, 1<<width-1)) == sums.Of(b) {
					t.Errorf("%d bytes: %d bits from %d on turned: the same sum", n, width, at)
				}
			}
		}
	}
	b := someBytes(65535)
	for _, at := range []int{0, 1, 7, 8, 262140, 8*65535 - 32} {
		for _, m := range masks() {
			if sums.Of(turned(b, at, m)) == sums.Of(b) {
				t.Errorf("from bit %d on, %032b turned: the same sum", at, m)
			}
		}
	}
}

// P2.3: for all changes of 32 bits at once: what single bits do to a sum is xored, so no change leaves it as it is where none of the 32 is an xor of others.
func TestNoBitsOnEndUndoOneAnother(t *testing.T) {
	for n := 4; n <= 20; n++ {
		b := someBytes(n)
		for at := range 8*n - 31 {
			if k := rank(b, at); k != 32 {
				t.Errorf("%d bytes, from bit %d on: %d of 32 bits stand alone", n, at, k)
			}
		}
	}
}

// rank is how many of the 32 bits from a place on do to the sum what no others of them do together.
func rank(b []byte, at int) int {
	var base [32]uint32
	k := 0
	for i := range 32 {
		d := sums.Of(turned(b, at, 1<<i)) ^ sums.Of(b)
		for high := 31; high >= 0 && d != 0; high-- {
			if d>>high&1 == 0 {
				continue
			}
			if base[high] == 0 {
				base[high] = d
				k++
				break
			}
			d ^= base[high]
		}
	}
	return k
}
