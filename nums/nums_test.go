package nums_test

import (
	"bytes"
	"math"
	"testing"

	"notcher/api"
	"notcher/nums"
)

// numbers are those at which a number's bytes grow by one, their neighbours, and some with noughts inside and behind.
func numbers() []uint64 {
	l := []uint64{0, 1, 2, 42, 300, 0x0100_0001, 0xff00_ff00_0000_0000, math.MaxInt64, math.MaxUint64}
	for shift := 0; shift < 64; shift += 4 {
		x := uint64(1) << shift
		l = append(l, x-1, x, x+1, x<<3)
	}
	return l
}

// wantNumber is a number's bytes, reckoned by division, another way than the package goes.
func wantNumber(x uint64) []byte {
	var low []byte
	for ; x > 0; x /= 256 {
		low = append(low, byte(x%256))
	}
	b := []byte{byte(len(low))}
	for i := len(low) - 1; i >= 0; i-- {
		b = append(b, low[i])
	}
	return b
}

func putNumber(x uint64) []byte {
	w := nums.NewWriter()
	w.Uint(x)
	return w.Out()
}

func same(t *testing.T, what string, got []byte, want ...byte) {
	t.Helper()
	if !bytes.Equal(got, want) {
		t.Errorf("%s: got % d, want % d", what, got, want)
	}
}

func isErr(t *testing.T, what string, got, want api.Errno) {
	t.Helper()
	if got != want {
		t.Errorf("%s: got error %d, want %d", what, got, want)
	}
}

// P1.1: a number's bytes.
func TestUintPutsANumbersBytes(t *testing.T) {
	for _, c := range []struct {
		x    uint64
		want []byte
	}{
		{0, []byte{0}},
		{1, []byte{1, 1}},
		{255, []byte{1, 255}},
		{256, []byte{2, 1, 0}},
		{300, []byte{2, 1, 44}},
		{65535, []byte{2, 255, 255}},
		{65536, []byte{3, 1, 0, 0}},
		{1<<56 - 1, []byte{7, 255, 255, 255, 255, 255, 255, 255}},
		{1 << 56, []byte{8, 1, 0, 0, 0, 0, 0, 0, 0}},
		{0x0102030405060708, []byte{8, 1, 2, 3, 4, 5, 6, 7, 8}},
		{math.MaxUint64, []byte{8, 255, 255, 255, 255, 255, 255, 255, 255}},
	} {
		same(t, "Uint", putNumber(c.x), c.want...)
	}
	for _, x := range numbers() {
		same(t, "Uint", putNumber(x), wantNumber(x)...)
	}
}

// P1.1: Bytes puts how many there are, as Uint does, and them.
func TestBytesPutsHowManyAndThem(t *testing.T) {
	for _, n := range []int{0, 1, 2, 255, 256, 300, 65535, 65536} {
		b := bytes.Repeat([]byte{7}, n)
		w := nums.NewWriter()
		w.Bytes(b)
		same(t, "Bytes", w.Out(), append(wantNumber(uint64(n)), b...)...)
	}
	w := nums.NewWriter()
	w.Bytes(nil)
	same(t, "Bytes of nil", w.Out(), 0)
}

// P1.1: Raw puts bytes alone.
func TestRawPutsThemAlone(t *testing.T) {
	w := nums.NewWriter()
	w.Raw(nil)
	w.Raw([]byte{})
	same(t, "Raw of nothing", w.Out())
	w.Raw([]byte{0, 9, 255})
	same(t, "Raw", w.Out(), 0, 9, 255)
}

// P1.1: each call's bytes come behind what was put.
func TestWhatIsPutComesBehind(t *testing.T) {
	w := nums.NewWriter()
	same(t, "Out at first", w.Out())
	w.Raw([]byte{5})
	w.Uint(300)
	w.Uint(0)
	w.Bytes([]byte("ab"))
	w.Raw([]byte{6})
	w.Uint(1)
	same(t, "Out", w.Out(), 5, 2, 1, 44, 0, 1, 2, 97, 98, 6, 1, 1)
	same(t, "Out once more", w.Out(), 5, 2, 1, 44, 0, 1, 2, 97, 98, 6, 1, 1)
	same(t, "Out of another one", nums.NewWriter().Out())
}

// P1.1: Out is in new memory, whatever is done with it, and whatever is put later (of many lengths: room that is left over would show).
func TestOutIsInNewMemory(t *testing.T) {
	for n := range 40 {
		put := bytes.Repeat([]byte{1}, n)
		w := nums.NewWriter()
		w.Raw(put)
		changed, kept := w.Out(), w.Out()
		for i := range changed {
			changed[i] = 99
		}
		grown := append(w.Out(), 99)
		w.Raw([]byte{2})
		same(t, "another Out", kept, put...)
		same(t, "an Out that grew", grown, append(put, 99)...)
		same(t, "Out later", w.Out(), append(put, 2)...)
	}
}

// P1.1: what was handed in is neither kept nor changed.
func TestWriterKeepsNothingHandedIn(t *testing.T) {
	room := []byte{1, 2, 3, 4}
	w := nums.NewWriter()
	w.Raw(room[:2])
	w.Bytes(room[:2])
	w.Uint(300)
	same(t, "what was handed in", room, 1, 2, 3, 4)
	room[0], room[1] = 9, 9
	same(t, "Out", w.Out(), 1, 2, 1, 2, 1, 2, 2, 1, 44)
}

// P1.1: a nil Writer.
func TestNilWriter(t *testing.T) {
	var w *nums.Writer
	w.Uint(0)
	w.Uint(300)
	w.Bytes([]byte("ab"))
	w.Bytes(nil)
	w.Raw([]byte("ab"))
	w.Raw(nil)
	same(t, "Out", w.Out())
}

// P1.2: a number, and what is no number, in the order of its errors.
func TestUintReads(t *testing.T) {
	for _, c := range []struct {
		name string
		b    []byte
		x    uint64
		err  api.Errno
	}{
		{"nothing", nil, 0, api.ErrShort},
		{"0", []byte{0}, 0, api.OK},
		{"1", []byte{1, 1}, 1, api.OK},
		{"300", []byte{2, 1, 44}, 300, api.OK},
		{"noughts behind", []byte{3, 1, 0, 0}, 65536, api.OK},
		{"eight bytes", []byte{8, 1, 2, 3, 4, 5, 6, 7, 8}, 0x0102030405060708, api.OK},
		{"the greatest", []byte{8, 255, 255, 255, 255, 255, 255, 255, 255}, math.MaxUint64, api.OK},
		{"nine bytes", []byte{9, 1, 2, 3, 4, 5, 6, 7, 8, 9}, 0, api.ErrForm},
		{"nine, and none there", []byte{9}, 0, api.ErrForm},
		{"255", []byte{255}, 0, api.ErrForm},
		{"cut short, none there", []byte{1}, 0, api.ErrShort},
		{"cut short", []byte{2, 1}, 0, api.ErrShort},
		{"eight, cut short", []byte{8, 1, 2, 3, 4, 5, 6, 7}, 0, api.ErrShort},
		{"cut short, a 0 in front", []byte{2, 0}, 0, api.ErrShort},
		{"a 0 alone", []byte{1, 0}, 0, api.ErrForm},
		{"a 0 in front", []byte{2, 0, 1}, 0, api.ErrForm},
		{"eight, a 0 in front", []byte{8, 0, 2, 3, 4, 5, 6, 7, 8}, 0, api.ErrForm},
	} {
		r := nums.NewReader(c.b)
		if x := r.Uint(); x != c.x {
			t.Errorf("%s: got %d, want %d", c.name, x, c.x)
		}
		isErr(t, c.name+": Err", r.Err(), c.err)
		isErr(t, c.name+": End", r.End(), c.err)
	}
}

// P1.2: Uint takes a number's bytes, and none behind.
func TestUintTakesItsBytesAlone(t *testing.T) {
	r := nums.NewReader([]byte{0, 1, 5, 2, 1, 44, 9, 0})
	if a, b, c := r.Uint(), r.Uint(), r.Uint(); a != 0 || b != 5 || c != 300 {
		t.Error(a, b, c)
	}
	same(t, "Raw", r.Raw(2), 9, 0)
	isErr(t, "End", r.End(), api.OK)
}

// P1.2: Raw, to what is left and one more.
func TestRawReads(t *testing.T) {
	for _, c := range []struct {
		n    int
		want []byte
		err  api.Errno
	}{
		{0, nil, api.OK},
		{1, []byte{1}, api.OK},
		{3, []byte{1, 2, 3}, api.OK},
		{4, nil, api.ErrShort},
		{math.MaxInt, nil, api.ErrShort},
		{-1, nil, api.ErrArg},
		{math.MinInt, nil, api.ErrArg},
	} {
		r := nums.NewReader([]byte{1, 2, 3})
		same(t, "Raw", r.Raw(c.n), c.want...)
		isErr(t, "Raw", r.Err(), c.err)
	}
	r := nums.NewReader(nil)
	same(t, "Raw of nothing", r.Raw(0))
	isErr(t, "Raw of nothing", r.End(), api.OK)
	same(t, "Raw of nothing", r.Raw(1))
	isErr(t, "Raw of nothing", r.End(), api.ErrShort)
	r = nums.NewReader(nil)
	r.Raw(-1)
	isErr(t, "Raw below 0 of nothing", r.Err(), api.ErrArg)
}

// P1.2: what Raw takes is the next one's no more.
func TestRawGoesOn(t *testing.T) {
	r := nums.NewReader([]byte{1, 2, 3, 4, 5})
	same(t, "first", r.Raw(2), 1, 2)
	same(t, "none", r.Raw(0))
	same(t, "second", r.Raw(3), 3, 4, 5)
	isErr(t, "End", r.End(), api.OK)
}

// P1.2: Bytes, to most and one more, and in the order of its errors.
func TestBytesReads(t *testing.T) {
	for _, c := range []struct {
		name string
		b    []byte
		most int
		want []byte
		err  api.Errno
	}{
		{"none", []byte{0}, 0, nil, api.OK},
		{"none, more may be", []byte{0}, 5, nil, api.OK},
		{"as many as may be", []byte{1, 2, 97, 98}, 2, []byte("ab"), api.OK},
		{"fewer", []byte{1, 2, 97, 98}, math.MaxInt, []byte("ab"), api.OK},
		{"one more", []byte{1, 2, 97, 98}, 1, nil, api.ErrBig},
		{"one, none may be", []byte{1, 1, 97}, 0, nil, api.ErrBig},
		{"most below 0", []byte{1, 2, 97, 98}, -1, nil, api.ErrBig},
		{"most below 0, of none", []byte{0}, -1, nil, api.ErrBig},
		{"most far below 0", []byte{1, 2, 97, 98}, math.MinInt, nil, api.ErrBig},
		{"one is missing", []byte{1, 3, 97, 98}, 3, nil, api.ErrShort},
		{"all are missing", []byte{1, 1}, 1, nil, api.ErrShort},
		{"too many, and missing", []byte{1, 3, 97, 98}, 2, nil, api.ErrBig},
		{"the greatest number", []byte{8, 255, 255, 255, 255, 255, 255, 255, 255}, math.MaxInt, nil, api.ErrBig},
		{"2^63", []byte{8, 128, 0, 0, 0, 0, 0, 0, 0}, math.MaxInt, nil, api.ErrBig},
		{"2^63 - 1, which are missing", []byte{8, 127, 255, 255, 255, 255, 255, 255, 255}, math.MaxInt, nil, api.ErrShort},
		{"no number", nil, 5, nil, api.ErrShort},
		{"no number, most below 0", nil, -1, nil, api.ErrShort},
		{"a number of nine bytes", []byte{9}, -1, nil, api.ErrForm},
		{"a number with a 0 in front", []byte{1, 0, 97}, 5, nil, api.ErrForm},
	} {
		r := nums.NewReader(c.b)
		same(t, c.name, r.Bytes(c.most), c.want...)
		isErr(t, c.name+": Err", r.Err(), c.err)
		isErr(t, c.name+": End", r.End(), c.err)
	}
}

// P1.2: End tells what is left, and lets it be read yet; Err doesn't tell it.
func TestEnd(t *testing.T) {
	r := nums.NewReader([]byte{1, 7, 9})
	isErr(t, "Err at first", r.Err(), api.OK)
	isErr(t, "End at first", r.End(), api.ErrLeft)
	if x := r.Uint(); x != 7 {
		t.Error(x)
	}
	isErr(t, "End, one left", r.End(), api.ErrLeft)
	isErr(t, "Err behind End", r.Err(), api.OK)
	same(t, "Raw behind End", r.Raw(1), 9)
	isErr(t, "End", r.End(), api.OK)
	isErr(t, "Err", r.Err(), api.OK)
	isErr(t, "End of nothing", nums.NewReader(nil).End(), api.OK)
}

// P1.2: behind an error all calls answer nothing, and the first error stays.
func TestNothingIsDoneBehindAnError(t *testing.T) {
	for _, c := range []struct {
		name string
		b    []byte
		fail func(r *nums.Reader)
		err  api.Errno
	}{
		{"Uint of nine bytes", []byte{9, 1, 5}, func(r *nums.Reader) { r.Uint() }, api.ErrForm},
		{"Uint with a 0 in front", []byte{1, 0, 1, 5}, func(r *nums.Reader) { r.Uint() }, api.ErrForm},
		{"Uint cut short", []byte{3, 1, 5}, func(r *nums.Reader) { r.Uint() }, api.ErrShort},
		{"Raw below 0", []byte{1, 1, 5}, func(r *nums.Reader) { r.Raw(-1) }, api.ErrArg},
		{"Raw of one more", []byte{1, 1, 5}, func(r *nums.Reader) { r.Raw(4) }, api.ErrShort},
		{"Bytes, too many", []byte{1, 1, 5}, func(r *nums.Reader) { r.Bytes(0) }, api.ErrBig},
		{"Bytes, one is missing", []byte{1, 3, 1, 5}, func(r *nums.Reader) { r.Bytes(3) }, api.ErrShort},
	} {
		r := nums.NewReader(c.b)
		c.fail(r)
		for range 2 {
			isErr(t, c.name+": Err", r.Err(), c.err)
			isErr(t, c.name+": End", r.End(), c.err)
			if x := r.Uint(); x != 0 {
				t.Errorf("%s: Uint: got %d", c.name, x)
			}
			same(t, c.name+": Raw", r.Raw(1))
			same(t, c.name+": Raw of none", r.Raw(0))
			same(t, c.name+": Raw below 0", r.Raw(-1))
			same(t, c.name+": Raw of many", r.Raw(100))
			same(t, c.name+": Bytes", r.Bytes(5))
			same(t, c.name+": Bytes below 0", r.Bytes(-1))
		}
	}
}

// P1.2: what is told is in new memory, and what was handed in is neither kept nor changed.
func TestReaderIsInNewMemory(t *testing.T) {
	in := []byte{1, 2, 1, 2, 97, 98, 1, 9}
	r := nums.NewReader(in)
	a := r.Raw(2)
	a[0], a[1] = 77, 77
	_ = append(a, 77, 77)
	b := r.Bytes(2)
	same(t, "Bytes", b, 97, 98)
	_ = append(b, 77, 77)
	same(t, "what was handed in", in, 1, 2, 1, 2, 97, 98, 1, 9)
	for i := range in {
		in[i] = 0
	}
	same(t, "what was told", b, 97, 98)
	if x := r.Uint(); x != 9 {
		t.Errorf("Uint: got %d, want 9", x)
	}
	isErr(t, "End", r.End(), api.OK)
}

// P1.2: an answer isn't touched by what is read later, nor shared with another Reader of the same bytes.
func TestAnswersShareNothing(t *testing.T) {
	in := []byte{1, 2, 3, 4}
	r, s := nums.NewReader(in), nums.NewReader(in)
	a, b := r.Raw(2), r.Raw(2)
	b[0], b[1] = 77, 77
	same(t, "first", a, 1, 2)
	same(t, "another Reader's", s.Raw(4), 1, 2, 3, 4)
	q := *nums.NewReader(in)
	p := q
	c, d := p.Raw(4), q.Raw(4)
	c[0] = 77
	same(t, "a Reader's that was a copy", d, 1, 2, 3, 4)
}

// P1.2: a nil Reader.
func TestNilReader(t *testing.T) {
	var r *nums.Reader
	if x := r.Uint(); x != 0 {
		t.Error(x)
	}
	for _, n := range []int{-1, 0, 1} {
		same(t, "Bytes", r.Bytes(n))
		same(t, "Raw", r.Raw(n))
	}
	isErr(t, "Err", r.Err(), api.ErrArg)
	isErr(t, "End", r.End(), api.ErrArg)
}

// P1.3: what is put is read.
func TestWhatIsPutIsRead(t *testing.T) {
	w := nums.NewWriter()
	for i, x := range numbers() {
		w.Uint(x)
		w.Bytes(bytes.Repeat([]byte{byte(i)}, 3*i))
		w.Raw([]byte{byte(i), 0})
	}
	r := nums.NewReader(w.Out())
	for i, x := range numbers() {
		if got := r.Uint(); got != x {
			t.Errorf("Uint: got %d, want %d", got, x)
		}
		same(t, "Bytes", r.Bytes(3*i), bytes.Repeat([]byte{byte(i)}, 3*i)...)
		same(t, "Raw", r.Raw(2), byte(i), 0)
	}
	isErr(t, "End", r.End(), api.OK)
}

// P1.3: of all bytes, up to three of them, what is read as a number is put as the bytes that were read; no two of them are one number.
func TestWhatIsReadIsPut(t *testing.T) {
	seen := map[uint64]bool{}
	check := func(b []byte) {
		r := nums.NewReader(b)
		x := r.Uint()
		if r.End() != api.OK {
			return
		}
		same(t, "Uint", putNumber(x), b...)
		if seen[x] {
			t.Errorf("% d: %d was read of other bytes, too", b, x)
		}
		seen[x] = true
	}
	check(nil)
	for i := range 256 {
		check([]byte{byte(i)})
		for j := range 256 {
			check([]byte{byte(i), byte(j)})
			for k := range 256 {
				check([]byte{byte(i), byte(j), byte(k)})
			}
		}
	}
	if len(seen) != 1<<16 {
		t.Errorf("%d numbers were read, want all below 2^16", len(seen))
	}
}

// P1.3: the same of rows of a number, bytes, and what is behind.
func TestWhatIsReadIsPutAsRows(t *testing.T) {
	for _, c := range []struct {
		b    []byte
		rest int
	}{
		{[]byte{0, 0}, 0},
		{[]byte{1, 5, 0, 9}, 1},
		{[]byte{1, 5, 1, 3, 97, 98, 99}, 0},
		{[]byte{2, 1, 44, 1, 1, 0, 255, 255}, 2},
		{[]byte{8, 255, 0, 0, 0, 0, 0, 0, 0, 0}, 0},
	} {
		r := nums.NewReader(c.b)
		w := nums.NewWriter()
		w.Uint(r.Uint())
		w.Bytes(r.Bytes(3))
		w.Raw(r.Raw(c.rest))
		isErr(t, "End", r.End(), api.OK)
		same(t, "row", w.Out(), c.b...)
	}
}
