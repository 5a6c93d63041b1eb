package frame_test

import (
	"bytes"
	"hash/crc32"
	"slices"
	"testing"

	"notcher/api"
	"notcher/frame"
	"notcher/sums"
)

// someBytes are n bytes that look like chance, the same ones each time.
func someBytes(n int) []byte {
	b := make([]byte, n)
	x := uint32(n) + 1
	for i := range b {
		x = x*1664525 + 1013904223
		b[i] = byte(x >> 24)
	}
	return b
}

// number is a number's bytes, reckoned by division, another way than package nums goes.
func number(x int) []byte {
	var low []byte
	for ; x > 0; x /= 256 {
		low = append(low, byte(x%256))
	}
	slices.Reverse(low)
	return append([]byte{byte(len(low))}, low...)
}

// sealed is what is joined of rows, and its sum by the library, another way than package sums goes.
func sealed(rows ...[]byte) []byte {
	b := slices.Concat(rows...)
	x := crc32.Checksum(b, crc32.MakeTable(crc32.Castagnoli))
	return append(b, byte(x>>24), byte(x>>16), byte(x>>8), byte(x))
}

// wantPut is a frame's bytes by the document's words.
func wantPut(f frame.Frame) []byte {
	return sealed(number(len(f.Body)), []byte{f.Kind}, f.Body)
}

// wantGet is the frame at the front of bytes by the document's words.
func wantGet(b []byte) (frame.Frame, int, api.Errno) {
	n, size, e := wantNumber(b)
	if e != api.OK {
		return frame.Frame{}, 0, e
	}
	if n > 65535 {
		return frame.Frame{}, 0, api.ErrBig
	}
	end := size + int(n) + 5
	if end > len(b) {
		return frame.Frame{}, 0, api.ErrShort
	}
	if !bytes.Equal(sealed(b[:end-4]), b[:end]) {
		return frame.Frame{}, 0, api.ErrSum
	}
	return frame.Frame{Kind: b[size], Body: b[size+1 : end-4]}, end, api.OK
}

// wantNumber is the number at the front of bytes, and how many bytes it has.
func wantNumber(b []byte) (uint64, int, api.Errno) {
	if len(b) == 0 {
		return 0, 0, api.ErrShort
	}
	if b[0] > 8 {
		return 0, 0, api.ErrForm
	}
	size := 1 + int(b[0])
	if len(b) < size {
		return 0, 0, api.ErrShort
	}
	n := uint64(0)
	for i, c := range b[1:size] {
		if i == 0 && c == 0 {
			return 0, 0, api.ErrForm
		}
		n = n*256 + uint64(c)
	}
	return n, size, api.OK
}

// frames are some of many kinds, with bodies of many sizes, those at which the number in front grows among them.
func frames() []frame.Frame {
	l := []frame.Frame{{}, {Kind: 1}, {Kind: 7, Body: []byte("hi")}, {Kind: 255, Body: []byte{}}}
	for _, n := range []int{1, 2, 3, 4, 5, 9, 64, 254, 255, 256, 257, 300, 1024, 65534, 65535} {
		l = append(l,
			frame.Frame{Kind: byte(n), Body: someBytes(n)},
			frame.Frame{Kind: byte(n >> 8), Body: make([]byte, n)},
			frame.Frame{Kind: 255, Body: bytes.Repeat([]byte{255}, n)})
	}
	return l
}

// tails are what may stand behind a frame.
func tails() [][]byte {
	hi := wantPut(frame.Frame{Kind: 7, Body: []byte("hi")})
	return [][]byte{nil, {0}, {255}, {9, 9, 9}, make([]byte, 40), bytes.Repeat([]byte{255}, 40), someBytes(40), hi, hi[:8], slices.Concat(hi, hi)}
}

// put is Put, of a frame of which it must go.
func put(t *testing.T, f frame.Frame) []byte {
	t.Helper()
	b, e := frame.Put(f)
	isErr(t, "Put", e, api.OK)
	return b
}

// short is of bytes what can be read in a line.
func short(b []byte) []byte { return b[:min(len(b), 40)] }

func same(t *testing.T, what string, got, want []byte) {
	t.Helper()
	if !bytes.Equal(got, want) {
		t.Errorf("%s: got %d bytes, % d, want %d, % d", what, len(got), short(got), len(want), short(want))
	}
}

func isErr(t *testing.T, what string, got, want api.Errno) {
	t.Helper()
	if got != want {
		t.Errorf("%s: got error %d, want %d", what, got, want)
	}
}

func isFrame(t *testing.T, what string, got, want frame.Frame) {
	t.Helper()
	if got.Kind != want.Kind {
		t.Errorf("%s: got kind %d, want %d", what, got.Kind, want.Kind)
	}
	same(t, what+": Body", got.Body, want.Body)
}

// gets asks Get, and says what it must answer.
func gets(t *testing.T, what string, b []byte, want frame.Frame, size int, e api.Errno) {
	t.Helper()
	f, n, err := frame.Get(b)
	isErr(t, what, err, e)
	isFrame(t, what, f, want)
	if n != size {
		t.Errorf("%s: got %d bytes, want %d", what, n, size)
	}
}

// refuses says that Get must answer an error, and nothing beside it.
func refuses(t *testing.T, what string, b []byte, e api.Errno) {
	t.Helper()
	gets(t, what, b, frame.Frame{}, 0, e)
}

// tellsAll asks All, and says what it must answer.
func tellsAll(t *testing.T, what string, b []byte, want []frame.Frame, size int) {
	t.Helper()
	l, n := frame.All(b)
	if n != size {
		t.Errorf("%s: got %d bytes, want %d", what, n, size)
	}
	if len(l) != len(want) {
		t.Fatalf("%s: got %d frames, want %d", what, len(l), len(want))
	}
	for i := range l {
		isFrame(t, what, l[i], want[i])
	}
}

// P3.1: frames whose bytes are written out; the document's example is the first one.
func TestPutOfWhatIsKnown(t *testing.T) {
	for _, c := range []struct {
		f    frame.Frame
		want []byte
	}{
		{frame.Frame{Kind: 1}, []byte{0, 1, 3, 10, 244, 209}},
		{frame.Frame{Kind: 7, Body: []byte("hi")}, []byte{1, 2, 7, 104, 105, 178, 8, 240, 97}},
	} {
		same(t, "Put", put(t, c.f), c.want)
		same(t, "by the words", wantPut(c.f), c.want)
	}
}

// P3.1: how many bytes there are, the kind, the bytes, and the sum of all that.
func TestPutIsAsWorded(t *testing.T) {
	for _, f := range frames() {
		same(t, "Put", put(t, f), wantPut(f))
	}
	for kind := range 256 {
		for _, body := range [][]byte{nil, {0}, []byte("notcher")} {
			f := frame.Frame{Kind: byte(kind), Body: body}
			same(t, "Put", put(t, f), wantPut(f))
		}
	}
}

// P3.1: the number in front is as short as can be, and what stands behind it has its place.
func TestPutLaysItsParts(t *testing.T) {
	for _, c := range []struct {
		n    int
		head []byte
	}{
		{0, []byte{0, 42}},
		{1, []byte{1, 1, 42}},
		{255, []byte{1, 255, 42}},
		{256, []byte{2, 1, 0, 42}},
		{300, []byte{2, 1, 44, 42}},
		{65535, []byte{2, 255, 255, 42}},
	} {
		body := someBytes(c.n)
		b := put(t, frame.Frame{Kind: 42, Body: body})
		if len(b) != len(c.head)+c.n+4 {
			t.Fatalf("%d bytes of body: got %d in all", c.n, len(b))
		}
		same(t, "number and kind", b[:len(c.head)], c.head)
		same(t, "body", b[len(c.head):len(b)-4], body)
		same(t, "all, with the sum", b, sums.Sealed(b[:len(b)-4]))
	}
}

// P3.1: a body of no bytes, be it nil or empty.
func TestPutOfNoBytes(t *testing.T) {
	room := []byte{1, 2, 3, 4, 5, 6, 7, 8, 9}
	for _, body := range [][]byte{nil, {}, room[:0], room[4:4]} {
		same(t, "Put", put(t, frame.Frame{Kind: 1, Body: body}), wantPut(frame.Frame{Kind: 1}))
	}
	same(t, "the room", room, []byte{1, 2, 3, 4, 5, 6, 7, 8, 9})
	same(t, "Put of the zero value", put(t, frame.Frame{}), sealed([]byte{0, 0}))
}

// P3.1: 65535 bytes may be, 65536 not.
func TestPutOfTooManyBytes(t *testing.T) {
	for _, n := range []int{65534, 65535} {
		f := frame.Frame{Kind: 9, Body: someBytes(n)}
		same(t, "Put", put(t, f), wantPut(f))
	}
	for _, n := range []int{65536, 65537, 65536 + 255, 1 << 17, 1 << 20} {
		b, e := frame.Put(frame.Frame{Kind: 9, Body: make([]byte, n)})
		isErr(t, "Put of too many", e, api.ErrBig)
		same(t, "Put of too many", b, nil)
	}
}

// P3.1: what is put is in new memory, whatever room the body has behind it, and the body stays as it is.
func TestPutIsInNewMemory(t *testing.T) {
	for room := range 16 {
		for n := range 12 {
			whole := someBytes(n + room)
			kept := bytes.Clone(whole)
			f := frame.Frame{Kind: 3, Body: whole[:n]}
			a, b := put(t, f), put(t, f)
			for i := range a {
				a[i] ^= 255
			}
			_ = append(a, 77, 77, 77, 77)
			same(t, "what was handed in, and the room", whole, kept)
			for i := range whole {
				whole[i] ^= 255
			}
			same(t, "another answer", b, wantPut(frame.Frame{Kind: 3, Body: kept[:n]}))
		}
	}
}

// P3.2: a frame, and how many bytes it has.
func TestGetOfWhatIsKnown(t *testing.T) {
	gets(t, "without bytes", []byte{0, 1, 3, 10, 244, 209}, frame.Frame{Kind: 1}, 6, api.OK)
	gets(t, "hi", []byte{1, 2, 7, 104, 105, 178, 8, 240, 97}, frame.Frame{Kind: 7, Body: []byte("hi")}, 9, api.OK)
	for _, f := range frames() {
		b := wantPut(f)
		gets(t, "Get", b, f, len(b), api.OK)
	}
}

// P3.2: what nums refuses at the front is told as nums tells it, whatever stands behind, and however right the sum is.
func TestGetOfNoNumber(t *testing.T) {
	for _, c := range []struct {
		name string
		b    []byte
		err  api.Errno
	}{
		{"nil", nil, api.ErrShort},
		{"none", []byte{}, api.ErrShort},
		{"cut short, none there", []byte{1}, api.ErrShort},
		{"cut short", []byte{2, 1}, api.ErrShort},
		{"cut short, a 0 in front", []byte{2, 0}, api.ErrShort},
		{"eight, cut short", []byte{8, 1, 2, 3, 4, 5, 6, 7}, api.ErrShort},
		{"nine, and none there", []byte{9}, api.ErrForm},
		{"nine", []byte{9, 1, 2, 3, 4, 5, 6, 7, 8, 9}, api.ErrForm},
		{"255", []byte{255}, api.ErrForm},
		{"a 0 alone", []byte{1, 0}, api.ErrForm},
		{"a 0 in front", []byte{2, 0, 1}, api.ErrForm},
		{"eight, a 0 in front", []byte{8, 0, 2, 3, 4, 5, 6, 7, 8}, api.ErrForm},
		{"eight noughts", []byte{8, 0, 0, 0, 0, 0, 0, 0, 0}, api.ErrForm},
	} {
		refuses(t, c.name, c.b, c.err)
		if c.err == api.ErrForm {
			refuses(t, c.name+", with bytes behind", slices.Concat(c.b, make([]byte, 100)), api.ErrForm)
		}
	}
	for front := 9; front < 256; front++ {
		refuses(t, "more than eight", append([]byte{byte(front)}, make([]byte, 300)...), api.ErrForm)
	}
	refuses(t, "a 0 that is put with a byte", sealed([]byte{1, 0, 7}), api.ErrForm)
	refuses(t, "a 2 that is put with two", sealed([]byte{2, 0, 2, 7}, []byte("hi")), api.ErrForm)
	refuses(t, "a 2 that is put with eight", sealed([]byte{8, 0, 0, 0, 0, 0, 0, 0, 2, 7}, []byte("hi")), api.ErrForm)
	refuses(t, "a number without its bytes", sealed([]byte{9, 7}), api.ErrForm)
}

// P3.2: a number of 65535 may be, one of 65536 not: that is told ahead of what is missing, and of a wrong sum.
func TestGetOfTooManyBytes(t *testing.T) {
	most := frame.Frame{Kind: 5, Body: someBytes(65535)}
	gets(t, "65535", wantPut(most), most, 65543, api.OK)
	refuses(t, "65535, and none there", []byte{2, 255, 255}, api.ErrShort)
	for _, head := range [][]byte{
		{3, 1, 0, 0},
		{3, 1, 0, 1},
		{3, 255, 255, 255},
		{4, 1, 0, 0, 0},
		{5, 1, 0, 0, 0, 0},
		{5, 1, 0, 0, 0, 2},
		{8, 1, 0, 0, 0, 0, 0, 0, 0},
		{8, 128, 0, 0, 0, 0, 0, 0, 0},
		{8, 255, 255, 255, 255, 255, 255, 255, 250},
		{8, 255, 255, 255, 255, 255, 255, 255, 255},
	} {
		refuses(t, "none behind", head, api.ErrBig)
		refuses(t, "some behind", slices.Concat(head, []byte{1, 2, 3}), api.ErrBig)
		refuses(t, "a right sum behind", sealed(head, []byte{5}), api.ErrBig)
	}
	refuses(t, "65536, whole", wantPut(frame.Frame{Kind: 5, Body: someBytes(65536)}), api.ErrBig)
	refuses(t, "65536, one is missing", wantPut(frame.Frame{Kind: 5, Body: someBytes(65536)})[:65544], api.ErrBig)
	refuses(t, "65536, wrong sum", append(number(65536), make([]byte, 65541)...), api.ErrBig)
}

// P3.2: so many bytes as the number tells, and 5, are enough; one fewer is too few, and so is each fewer.
func TestGetOfTooFewBytes(t *testing.T) {
	for _, f := range frames() {
		b := wantPut(f)
		gets(t, "just as many", b, f, len(b), api.OK)
		for n := range min(len(b), 300) {
			refuses(t, "cut short", b[:n], api.ErrShort)
			refuses(t, "cut short, at the end", b[:len(b)-1-n], api.ErrShort)
		}
	}
}

// P3.2: that bytes are missing is told ahead of a wrong sum; with all of them there, the sum is wrong.
func TestGetOfTooFewBytesWithoutSum(t *testing.T) {
	for _, n := range []int{0, 1, 2, 255, 256, 65535} {
		b := append(number(n), bytes.Repeat([]byte{3}, n+5)...)
		refuses(t, "all there", b, api.ErrSum)
		refuses(t, "one is missing", b[:len(b)-1], api.ErrShort)
		refuses(t, "five are missing", b[:len(b)-5], api.ErrShort)
		refuses(t, "one more", append(b, 3), api.ErrSum)
	}
	refuses(t, "noughts", make([]byte, 6), api.ErrSum)
	refuses(t, "five noughts", make([]byte, 5), api.ErrShort)
	refuses(t, "255s", bytes.Repeat([]byte{255}, 6), api.ErrForm)
}

// P3.2: bytes that are cut off are not looked at, though they would make the frame whole.
func TestGetKeepsToItsBytes(t *testing.T) {
	f := frame.Frame{Kind: 7, Body: []byte("notcher")}
	whole := slices.Concat(wantPut(f), wantPut(f))
	kept := bytes.Clone(whole)
	for n := range whole {
		want, size, e := wantGet(kept[:n])
		gets(t, "some of them", whole[:n], want, size, e)
	}
	same(t, "what was handed in", whole, kept)
}

// P3.2: each byte of a frame, changed to each other one: of number, kind, body and sum.
func TestGetOfSpoiledBytes(t *testing.T) {
	for _, f := range []frame.Frame{{}, {Kind: 1}, {Kind: 7, Body: []byte("hi")}, {Kind: 9, Body: make([]byte, 4)}, {Kind: 200, Body: someBytes(300)}} {
		b := wantPut(f)
		head := len(number(len(f.Body)))
		for i := range b {
			for x := 1; x < 256; x++ {
				spoiled := bytes.Clone(b)
				spoiled[i] ^= byte(x)
				want, size, e := wantGet(spoiled)
				if e == api.OK || i >= head && e != api.ErrSum {
					t.Fatalf("byte %d by %d: the test itself has error %d", i, x, e)
				}
				gets(t, "spoiled", spoiled, want, size, e)
			}
		}
	}
}

// P3.2: bytes the other way round, in a sum or a body, are wrong; so are those of a frame whose sum leaves its number, or its kind, out.
func TestGetOfOtherSums(t *testing.T) {
	good := wantPut(frame.Frame{Kind: 7, Body: []byte("hi")})
	for _, at := range [][2]int{{3, 5}, {5, 9}} {
		b := bytes.Clone(good)
		slices.Reverse(b[at[0]:at[1]])
		refuses(t, "the other way round", b, api.ErrSum)
	}
	for ahead := 1; ahead < 5; ahead++ {
		refuses(t, "a sum of less", slices.Concat(good[:ahead], sealed(good[ahead:5])), api.ErrSum)
	}
	refuses(t, "no sum, but noughts", append(good[:5:5], 0, 0, 0, 0), api.ErrSum)
}

// P3.2: of what stands behind a frame nothing is taken.
func TestGetOfBytesBehind(t *testing.T) {
	for _, f := range frames() {
		b := wantPut(f)
		for _, tail := range tails() {
			gets(t, "with bytes behind", slices.Concat(b, tail), f, len(b), api.OK)
		}
	}
}

// P3.2: a Body is in new memory, and what is handed in stays as it is.
func TestGetIsInNewMemory(t *testing.T) {
	for n := range 40 {
		want := frame.Frame{Kind: 4, Body: someBytes(n)}
		b := slices.Concat(wantPut(want), []byte{1, 2, 3})
		kept := bytes.Clone(b)
		changed, _, _ := frame.Get(b)
		other, _, _ := frame.Get(b)
		for i := range changed.Body {
			changed.Body[i] ^= 255
		}
		_ = append(changed.Body, 77, 77, 77, 77, 77)
		same(t, "what was handed in", b, kept)
		for i := range b {
			b[i] ^= 255
		}
		isFrame(t, "another answer", other, want)
	}
}

// P3.2: no frames are nothing.
func TestAllOfNone(t *testing.T) {
	tellsAll(t, "nil", nil, nil, 0)
	tellsAll(t, "none", []byte{}, nil, 0)
	tellsAll(t, "noughts", make([]byte, 100), nil, 0)
	tellsAll(t, "255s", bytes.Repeat([]byte{255}, 100), nil, 0)
	tellsAll(t, "too big", wantPut(frame.Frame{Body: make([]byte, 65536)}), nil, 0)
}

// P3.2: frames, one behind the other, and what stands behind them.
func TestAllOfSeveral(t *testing.T) {
	l := frames()
	var b []byte
	for i := range len(l) + 1 {
		tellsAll(t, "several", b, l[:i], len(b))
		tellsAll(t, "several, and a bit behind", append(b[:len(b):len(b)], 1, 2), l[:i], len(b))
		if i < len(l) {
			b = append(b, wantPut(l[i])...)
		}
	}
	one := wantPut(frame.Frame{Kind: 1})
	many := make([]frame.Frame, 5000)
	for i := range many {
		many[i].Kind = 1
	}
	tellsAll(t, "many", bytes.Repeat(one, 5000), many, 5000*len(one))
}

// P3.2: a last one that is cut is none, wherever it is cut.
func TestAllWithALastOneCut(t *testing.T) {
	l := []frame.Frame{{Kind: 1}, {Kind: 7, Body: []byte("hi")}, {Kind: 8, Body: someBytes(300)}}
	ahead := slices.Concat(wantPut(l[0]), wantPut(l[1]))
	last := wantPut(l[2])
	for n := range last {
		tellsAll(t, "the last one cut", slices.Concat(ahead, last[:n]), l[:2], len(ahead))
		tellsAll(t, "the only one cut", last[:n], nil, 0)
	}
	tellsAll(t, "the last one whole", slices.Concat(ahead, last), l, len(ahead)+len(last))
}

// P3.2: one that is spoiled ends them, whichever byte it is, and whatever stands behind.
func TestAllWithOneSpoiled(t *testing.T) {
	l := []frame.Frame{{Kind: 1}, {Kind: 7, Body: []byte("hi")}, {Kind: 8, Body: someBytes(20)}}
	ahead := slices.Concat(wantPut(l[0]), wantPut(l[1]))
	last := wantPut(l[2])
	for i := range last {
		for _, x := range []byte{1, 2, 128, 255} {
			b := slices.Concat(ahead, last)
			b[len(ahead)+i] ^= x
			tellsAll(t, "the last one spoiled", b, l[:2], len(ahead))
			tellsAll(t, "the last but some spoiled", append(b, ahead...), l[:2], len(ahead))
			tellsAll(t, "the first one spoiled", append(b[len(ahead):], ahead...), nil, 0)
		}
	}
}

// P3.2: what All tells is in new memory, and no two Bodies share any.
func TestAllIsInNewMemory(t *testing.T) {
	l := []frame.Frame{{Kind: 1, Body: []byte("a")}, {Kind: 2}, {Kind: 3, Body: someBytes(20)}, {Kind: 4, Body: someBytes(33)}}
	var b []byte
	for _, f := range l {
		b = append(b, wantPut(f)...)
	}
	kept := bytes.Clone(b)
	for i := range l {
		got, _ := frame.All(b)
		for j := range got[i].Body {
			got[i].Body[j] ^= 255
		}
		_ = append(got[i].Body, bytes.Repeat([]byte{77}, 50)...)
		same(t, "what was handed in", b, kept)
		for j := range l {
			if j != i {
				isFrame(t, "another one", got[j], l[j])
			}
		}
	}
	got, _ := frame.All(b)
	for i := range b {
		b[i] ^= 255
	}
	for i := range l {
		isFrame(t, "once what was handed in changed", got[i], l[i])
	}
}

// P3.3: what is put is got, whatever stands behind, and by All, too.
func TestWhatIsPutIsGot(t *testing.T) {
	for _, f := range frames() {
		b := put(t, f)
		for _, tail := range tails() {
			gets(t, "what is put", slices.Concat(b, tail), f, len(b), api.OK)
		}
	}
	for kind := range 256 {
		for n := range 20 {
			f := frame.Frame{Kind: byte(kind), Body: someBytes(n)}
			b := put(t, f)
			gets(t, "what is put", append(b, byte(kind)), f, len(b), api.OK)
		}
	}
	for n := range 1500 {
		f := frame.Frame{Kind: byte(n), Body: someBytes(n)}
		b := put(t, f)
		tellsAll(t, "what is put", slices.Concat(b, b, b[1:]), []frame.Frame{f, f}, 2*len(b))
	}
}

// putAgain tells whether a frame is got of bytes; if so, it must be put as them.
func putAgain(t *testing.T, b []byte) bool {
	t.Helper()
	f, n, e := frame.Get(b)
	if e != api.OK {
		return false
	}
	same(t, "what is put of what was got", put(t, f), b[:n])
	return true
}

// P3.3: bytes of which a frame is got are what is put for it: all heads of two bytes and some of more, with right sums behind, wherever they end.
func TestBytesThatAreGotArePut(t *testing.T) {
	got := 0
	for front := range 256 {
		for next := range 256 {
			for behind := range 6 {
				head := append([]byte{byte(front), byte(next)}, make([]byte, behind)...)
				if putAgain(t, sealed(head)) {
					got++
				}
			}
		}
	}
	// Of a 0 and each kind, and of the numbers 1 to 4, which the noughts are enough for: other heads would be a second way to put a frame.
	if want := 256 + 4; got != want {
		t.Errorf("got %d frames, want %d", got, want)
	}
	for size := range 9 {
		for noughts := range size + 1 {
			head := slices.Concat([]byte{byte(size)}, make([]byte, noughts), []byte{1, 2, 3, 4, 5, 6, 7, 8}[:size-noughts])
			for behind := range 300 {
				putAgain(t, sealed(head, someBytes(behind)))
			}
		}
	}
}

// P3.3: nothing stays of a frame for the next one.
func TestFramesKeepNothing(t *testing.T) {
	for range 3 {
		for _, f := range frames() {
			b := put(t, f)
			_, e := frame.Put(frame.Frame{Kind: 1, Body: make([]byte, 65536)})
			isErr(t, "too many", e, api.ErrBig)
			refuses(t, "cut", b[:len(b)-1], api.ErrShort)
			refuses(t, "too big", []byte{3, 1, 0, 0}, api.ErrBig)
			gets(t, "whole", b, f, len(b), api.OK)
		}
	}
}
