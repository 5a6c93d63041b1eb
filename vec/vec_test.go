package vec_test

import (
	"fmt"
	"math"
	"math/big"
	"math/rand"
	"slices"
	"testing"

	"notcher/api"
	"notcher/vec"
)

// top is the greatest number there is.
const top = uint64(18446744073709551615)

// r is a row of these numbers.
func r(l ...uint64) []uint64 { return l }

// inWords is At as the document words it.
func inWords(v []uint64, i int) uint64 {
	for place, x := range v {
		if place == i {
			return x
		}
	}
	return 0
}

// cutInWords is a row up to the last number that isn't 0.
func cutInWords(v []uint64) []uint64 {
	var out []uint64
	for i, x := range v {
		if x != 0 {
			out = slices.Clone(v[:i+1])
		}
	}
	return out
}

// span is one place more than any of these rows has.
func span(l ...[]uint64) int {
	n := 0
	for _, v := range l {
		n = max(n, len(v))
	}
	return n + 1
}

// sameInWords and leInWords are Same and Le, place by place, and one behind the ends.
func sameInWords(a, b []uint64) bool {
	for i := range span(a, b) {
		if inWords(a, i) != inWords(b, i) {
			return false
		}
	}
	return true
}

func leInWords(a, b []uint64) bool {
	for i := range span(a, b) {
		if inWords(a, i) > inWords(b, i) {
			return false
		}
	}
	return true
}

// edgeInWords is Min, or Max: at each place the first, or the last, of all rows' numbers in order.
func edgeInWords(greatest bool, l ...[]uint64) []uint64 {
	if len(l) == 0 {
		return nil
	}
	var out []uint64
	for i := range span(l...) {
		var column []uint64
		for _, v := range l {
			column = append(column, inWords(v, i))
		}
		slices.Sort(column)
		at := 0
		if greatest {
			at = len(column) - 1
		}
		out = append(out, column[at])
	}
	return cutInWords(out)
}

// sumInWords is Sum, in numbers without an end.
func sumInWords(v []uint64) (uint64, api.Errno) {
	sum := new(big.Int)
	for _, x := range v {
		sum.Add(sum, new(big.Int).SetUint64(x))
	}
	if !sum.IsUint64() {
		return 0, api.ErrWorn
	}
	return sum.Uint64(), api.OK
}

// lessInWords is Less, place by place.
func lessInWords(a, b []uint64) ([]uint64, api.Errno) {
	if !leInWords(b, a) {
		return nil, api.ErrRange
	}
	var out []uint64
	for i := range span(a, b) {
		out = append(out, inWords(a, i)-inWords(b, i))
	}
	return cutInWords(out), api.OK
}

// together are two rows added place by place.
func together(a, b []uint64) []uint64 {
	var out []uint64
	for i := range span(a, b) {
		out = append(out, inWords(a, i)+inWords(b, i))
	}
	return out
}

// small are all rows of up to three places, of these numbers.
func small(numbers ...uint64) [][]uint64 {
	l := [][]uint64{nil}
	for at := 0; at < len(l); at++ {
		if len(l[at]) == 3 {
			continue
		}
		for _, x := range numbers {
			l = append(l, append(slices.Clone(l[at]), x))
		}
	}
	return l
}

// chanceRow is a row of up to so many places: of near numbers, of far ones, of noughts, or of all kinds.
func chanceRow(c *rand.Rand, places int) []uint64 {
	v := make([]uint64, c.Intn(places+1))
	kind := c.Intn(4)
	for i := range v {
		k := kind
		if k == 3 {
			k = c.Intn(4)
		}
		switch k {
		case 0:
			v[i] = uint64(c.Intn(4))
		case 1:
			v[i] = top - uint64(c.Intn(4))
		case 3:
			v[i] = c.Uint64() >> c.Intn(64)
		}
	}
	return v
}

// isRow wants just these numbers, and no noughts behind them.
func isRow(t *testing.T, what string, got []uint64, want ...uint64) {
	t.Helper()
	if !slices.Equal(got, want) {
		t.Errorf("%s: got %d, want %d", what, got, want)
	}
}

func isErr(t *testing.T, what string, got, want api.Errno) {
	t.Helper()
	if got != want {
		t.Errorf("%s: got error %d, want %d", what, got, want)
	}
}

func is(t *testing.T, what string, got, want bool) {
	t.Helper()
	if got != want {
		t.Errorf("%s: got %v, want %v", what, got, want)
	}
}

// isSum wants this sum, or this error and no number.
func isSum(t *testing.T, v []uint64, want uint64, err api.Errno) {
	t.Helper()
	what := fmt.Sprintf("Sum(%d)", v)
	got, e := vec.Sum(v)
	isErr(t, what, e, err)
	if got != want {
		t.Errorf("%s: got %d, want %d", what, got, want)
	}
}

// isLess wants this row, or this error and no row.
func isLess(t *testing.T, a, b []uint64, err api.Errno, want ...uint64) {
	t.Helper()
	what := fmt.Sprintf("Less(%d, %d)", a, b)
	got, e := vec.Less(a, b)
	isErr(t, what, e, err)
	isRow(t, what, got, want...)
}

// isWorded wants of each call on two rows what the document's words tell.
func isWorded(t *testing.T, a, b []uint64) {
	t.Helper()
	what := fmt.Sprintf("%d, %d", a, b)
	is(t, "Same of "+what, vec.Same(a, b), sameInWords(a, b))
	is(t, "Le of "+what, vec.Le(a, b), leInWords(a, b))
	isRow(t, "Min of "+what, vec.Min(a, b), edgeInWords(false, a, b)...)
	isRow(t, "Max of "+what, vec.Max(a, b), edgeInWords(true, a, b)...)
	less, e := lessInWords(a, b)
	isLess(t, a, b, e, less...)
}

// The chapter's example.
func TestExample(t *testing.T) {
	isRow(t, "Min of 1 2 3, and 2 1", vec.Min(r(1, 2, 3), r(2, 1)), 1, 1)
}

// P9.1: a row's number at a place, and 0 where there is none.
func TestAt(t *testing.T) {
	v := r(7, 0, top, 300, 0)
	for i, want := range v {
		if got := vec.At(v, i); got != want {
			t.Errorf("At %d of %d: got %d, want %d", i, v, got, want)
		}
	}
	if got := vec.At(r(top), 0); got != top {
		t.Errorf("At 0 of one number: got %d", got)
	}
	far := []int{-1, -2, -3, -5, -6, -64, -1 << 31, -1 << 32, 1 << 31, 1<<32 - 1, 1 << 32, 1<<32 + 2, 1<<48 + 2, math.MinInt, math.MinInt + 2, math.MaxInt - 1, math.MaxInt}
	for _, row := range [][]uint64{nil, {}, r(9), r(9, 9), v, make([]uint64, 3)} {
		behind := []int{len(row), len(row) + 1, len(row) + 2, len(row) + 64}
		for _, i := range append(behind, far...) {
			if got := vec.At(row, i); got != 0 {
				t.Errorf("At %d of %d: got %d, want 0", i, row, got)
			}
		}
	}
}

// P9.1: what stands in memory behind a row's end is none of its numbers.
func TestBehindTheEnd(t *testing.T) {
	all := r(1, 2, 3, 4)
	for n := range len(all) + 1 {
		v, alone := all[:n], slices.Clone(all[:n])
		for i := range 6 {
			if got, want := vec.At(v, i), inWords(alone, i); got != want {
				t.Errorf("At %d of the first %d: got %d, want %d", i, n, got, want)
			}
		}
		is(t, "Same, cut short", vec.Same(v, alone), true)
		is(t, "Same, of all", vec.Same(v, all), n == 4)
		is(t, "Le, cut short", vec.Le(all, v), n == 4)
		isRow(t, "Min, cut short", vec.Min(v, all), alone...)
		isRow(t, "Max, cut short", vec.Max(v, nil), alone...)
		isRow(t, "Cut, cut short", vec.Cut(v), alone...)
		sum, _ := sumInWords(alone)
		isSum(t, v, sum, api.OK)
		isLess(t, v, nil, api.OK, alone...)
	}
}

// P9.1: two rows are the same, whatever noughts are at their ends.
func TestSame(t *testing.T) {
	for _, c := range []struct {
		a, b []uint64
		want bool
	}{
		{nil, nil, true},
		{nil, r(), true},
		{nil, r(0), true},
		{r(0, 0, 0), r(0), true},
		{r(1, 2), r(1, 2), true},
		{r(1, 2), r(1, 2, 0), true},
		{r(1, 2), r(1, 2, 0, 0, 0), true},
		{r(0, 0, 3), r(0, 0, 3, 0), true},
		{r(top, 0, top), r(top, 0, top, 0), true},
		{nil, r(1), false},
		{nil, r(0, 0, 1), false},
		{r(1), r(2), false},
		{r(1, 2), r(2, 1), false},
		{r(1, 2), r(1), false},
		{r(1, 2), r(1, 0, 2), false},
		{r(1, 2), r(0, 1, 2), false},
		{r(1, 2, 3), r(1, 2, 4), false},
		{r(1, 2, 3), r(1, 3, 3), false},
		{r(1, 2, 3), r(2, 2, 3), false},
		{r(1, 2, 0), r(1, 2, 0, 1), false},
		{r(0), r(top), false},
		{r(top), r(top - 1), false},
		{r(1), r(1<<32 + 1), false},
		{r(1 << 63), r(0), false},
	} {
		what := fmt.Sprintf("Same of %d, %d", c.a, c.b)
		is(t, what, vec.Same(c.a, c.b), c.want)
		is(t, what+", the other way", vec.Same(c.b, c.a), c.want)
	}
}

// P9.1: Le asks each place of both rows.
func TestLe(t *testing.T) {
	for _, c := range []struct {
		a, b         []uint64
		want, turned bool
	}{
		{nil, nil, true, true},
		{nil, r(), true, true},
		{nil, r(0, 0), true, true},
		{r(0), r(0, 0, 0), true, true},
		{r(1, 2), r(1, 2), true, true},
		{r(1, 2), r(1, 2, 0, 0), true, true},
		{nil, r(1), true, false},
		{nil, r(0, 0, 1), true, false},
		{r(0, 0), r(1), true, false},
		{r(1), r(1, 1), true, false},
		{r(1, 0, 0, 0), r(1, 1), true, false},
		{r(1, 2, 3), r(1, 2, 4), true, false},
		{r(1, 2, 3), r(1, 3, 3), true, false},
		{r(1, 2, 3), r(2, 2, 3), true, false},
		{r(0), r(top), true, false},
		{r(top - 1), r(top), true, false},
		{r(1<<63 - 1), r(1 << 63), true, false},
		{r(2), r(1<<32 + 1), true, false},
		{r(1, 2), r(2, 1), false, false},
		{r(1, 2, 3), r(2, 1), false, false},
		{r(1, 2), r(0, 5, 5), false, false},
		{r(0, 0, 1), r(5, 5), false, false},
		{r(top, 0), r(0, top), false, false},
	} {
		what := fmt.Sprintf("Le of %d, %d", c.a, c.b)
		is(t, what, vec.Le(c.a, c.b), c.want)
		is(t, what+", the other way", vec.Le(c.b, c.a), c.turned)
	}
}

// P9.1: Cut takes the noughts at the end, and no other ones.
func TestCut(t *testing.T) {
	isRow(t, "Cut of nil", vec.Cut(nil))
	isRow(t, "Cut of none", vec.Cut(r()))
	isRow(t, "nothing to cut", vec.Cut(r(1, 2)), 1, 2)
	isRow(t, "one to cut", vec.Cut(r(1, 2, 0)), 1, 2)
	isRow(t, "several to cut", vec.Cut(r(1, 2, 0, 0, 0)), 1, 2)
	isRow(t, "noughts in front", vec.Cut(r(0, 0, 1)), 0, 0, 1)
	isRow(t, "noughts between", vec.Cut(r(0, 5, 0, 0, 7, 0)), 0, 5, 0, 0, 7)
	isRow(t, "great ones", vec.Cut(r(top, 0, 1<<63, 1<<32, 0)), top, 0, 1<<63, 1<<32)
	for n := range 70 {
		isRow(t, "noughts alone", vec.Cut(make([]uint64, n)))
		isRow(t, "noughts behind one", vec.Cut(append(r(1), make([]uint64, n)...)), 1)
	}
	for _, v := range small(0, 1, top) {
		isRow(t, fmt.Sprintf("Cut of %d", v), vec.Cut(v), cutInWords(v)...)
		is(t, fmt.Sprintf("Cut of %d is the same", v), vec.Same(vec.Cut(v), v), true)
	}
}

// P9.2: Min and Max of no rows, of one row, and of rows of none.
func TestMinMaxOfFew(t *testing.T) {
	for name, of := range map[string]func(...[]uint64) []uint64{"Min": vec.Min, "Max": vec.Max} {
		isRow(t, name+" of no rows", of())
		isRow(t, name+" of nil for rows", of([][]uint64(nil)...))
		isRow(t, name+" of an empty list of rows", of([][]uint64{}...))
		isRow(t, name+" of a nil row", of([]uint64(nil)))
		isRow(t, name+" of an empty row", of(r()))
		isRow(t, name+" of rows of none", of(nil, r(), nil))
		isRow(t, name+" of one row", of(r(3, 0, top)), 3, 0, top)
		isRow(t, name+" of one row, cut", of(r(3, 0, 5, 0, 0)), 3, 0, 5)
		isRow(t, name+" of one row of noughts", of(r(0, 0)))
		isRow(t, name+" of rows of noughts", of(r(0, 0), r(0), r(0, 0, 0)))
		isRow(t, name+" of alike rows", of(r(1, 2), r(1, 2), r(1, 2, 0)), 1, 2)
	}
}

// P9.2: at each place the least one, 0 behind an end; cut.
func TestMin(t *testing.T) {
	isRow(t, "two of one length", vec.Min(r(1, 5, 3), r(2, 4, 3)), 1, 4, 3)
	isRow(t, "many", vec.Min(r(9, 9, 9, 9), r(8, 7, 9, 5), r(1, 9, 9, 8), r(3, 8, 6, 9)), 1, 7, 6, 5)
	isRow(t, "a shorter one in front", vec.Min(r(2, 1), r(1, 2, 3)), 1, 1)
	isRow(t, "a shorter one between", vec.Min(r(4, 4, 4), r(3), r(5, 5, 5)), 3)
	isRow(t, "a row of none in front", vec.Min(nil, r(1, 2), r(3, 4)))
	isRow(t, "a row of none between", vec.Min(r(1, 2), r(), r(3, 4)))
	isRow(t, "a row of none behind", vec.Min(r(1, 2), r(3, 4), nil))
	isRow(t, "noughts at its end", vec.Min(r(1, 2, 0, 7), r(1, 2, 7, 0)), 1, 2)
	isRow(t, "noughts between", vec.Min(r(1, 0, 5), r(1, 5, 6)), 1, 0, 5)
	isRow(t, "noughts alone", vec.Min(r(1, 0, 1), r(0, 1)))
	isRow(t, "0 and the greatest", vec.Min(r(top, 0, top), r(0, top, top)), 0, 0, top)
	isRow(t, "great ones", vec.Min(r(1<<63, 1<<32+1), r(1<<63-1, 2)), 1<<63-1, 2)
}

// P9.2: at each place the greatest one; cut.
func TestMax(t *testing.T) {
	isRow(t, "two of one length", vec.Max(r(1, 5, 3), r(2, 4, 3)), 2, 5, 3)
	isRow(t, "many", vec.Max(r(1, 1, 1, 1), r(2, 3, 1, 5), r(9, 1, 1, 2), r(7, 2, 4, 1)), 9, 3, 4, 5)
	isRow(t, "a shorter one behind", vec.Max(r(1, 2, 3), r(2, 1)), 2, 2, 3)
	isRow(t, "a shorter one in front", vec.Max(r(2, 1), r(1, 2, 3)), 2, 2, 3)
	isRow(t, "a shorter one between", vec.Max(r(4, 4, 4), r(9), r(5, 5, 5, 5)), 9, 5, 5, 5)
	isRow(t, "a row of none in front", vec.Max(nil, r(1, 2), r(3, 1)), 3, 2)
	isRow(t, "a row of none between", vec.Max(r(1, 2), r(), r(3, 1)), 3, 2)
	isRow(t, "a row of none behind", vec.Max(r(1, 2), r(3, 1), nil), 3, 2)
	isRow(t, "noughts at its end", vec.Max(r(1, 2, 0, 0), r(1, 2, 0)), 1, 2)
	isRow(t, "noughts between", vec.Max(r(1, 0, 5), r(1, 0, 0, 6)), 1, 0, 5, 6)
	isRow(t, "noughts alone", vec.Max(r(0, 0, 0), r(0)))
	isRow(t, "0 and the greatest", vec.Max(r(top, 0, 0), r(0, top, 0)), top, top)
	isRow(t, "great ones", vec.Max(r(1<<63, 1<<32+1), r(1<<63-1, 2)), 1<<63, 1<<32+1)
}

// P9.2: all numbers together, up to the greatest that there is.
func TestSum(t *testing.T) {
	isSum(t, nil, 0, api.OK)
	isSum(t, r(), 0, api.OK)
	isSum(t, r(0), 0, api.OK)
	isSum(t, r(1, 2, 3, 0), 6, api.OK)
	isSum(t, r(0, 0, 5, 0, 7), 12, api.OK)
	isSum(t, r(1<<32-1, 1<<32-1), 1<<33-2, api.OK)
	isSum(t, r(top), top, api.OK)
	isSum(t, r(top, 0, 0), top, api.OK)
	isSum(t, r(0, 0, top), top, api.OK)
	isSum(t, r(1, top-1), top, api.OK)
	isSum(t, r(top-1, 1), top, api.OK)
	isSum(t, r(1<<63, 1<<63-1), top, api.OK)
	isSum(t, r(1<<63-1, 1<<63), top, api.OK)
	isSum(t, r(1<<62, 1<<62, 1<<62, 1<<62-1), top, api.OK)
}

// P9.2: 2^64 or more is ErrWorn, wherever in a row it happens, and though the sum would be a small one again.
func TestSumWorn(t *testing.T) {
	for _, v := range [][]uint64{
		r(top, 1), r(1, top), r(0, top, 0, 1), r(1, 0, 0, top, 0),
		r(top, 1, 0), r(top, 1, 5), r(top, 1, top), r(5, 6, top), r(top, top), r(top, top, top), r(top, top, 1, 1),
		r(1<<63, 1<<63), r(1<<63, 1<<63, 1), r(1<<63, 1<<63, 1<<63), r(1<<63, 1<<63, 1<<63, 1<<63), r(7, 1<<63, 1<<63),
		r(1<<62, 1<<62, 1<<62, 1<<62), r(1<<62, 1<<62, 1<<62, 1<<62, 1<<62), r(top-1, 2), r(top-1, 1, 1), r(1, 1, top-1),
		slices.Repeat(r(1<<60), 16), slices.Repeat(r(1<<60), 17), slices.Repeat(r(1<<60), 33), slices.Repeat(r(top), 257),
	} {
		isSum(t, v, 0, api.ErrWorn)
	}
	for n := range 12 {
		for at := range n {
			for also := range n {
				v := make([]uint64, n)
				v[also] = 1
				v[at] = top
				if at == also {
					isSum(t, v, top, api.OK)
				} else {
					isSum(t, v, 0, api.ErrWorn)
				}
			}
		}
	}
}

// P9.2: at each place a's less b's; cut.
func TestLess(t *testing.T) {
	isLess(t, nil, nil, api.OK)
	isLess(t, nil, r(), api.OK)
	isLess(t, r(), nil, api.OK)
	isLess(t, nil, r(0, 0), api.OK)
	isLess(t, r(0, 0), nil, api.OK)
	isLess(t, r(1, 2), nil, api.OK, 1, 2)
	isLess(t, r(1, 2, 0, 0), nil, api.OK, 1, 2)
	isLess(t, r(5, 6, 7), r(1, 2, 3), api.OK, 4, 4, 4)
	isLess(t, r(5, 6, 7), r(5, 2), api.OK, 0, 4, 7)
	isLess(t, r(5, 6, 7), r(5, 6), api.OK, 0, 0, 7)
	isLess(t, r(1, 2, 3, 0), r(1, 1, 3), api.OK, 0, 1)
	isLess(t, r(1, 2, 3), r(0, 2, 3), api.OK, 1)
	isLess(t, r(1, 2, 3), r(1, 2, 3), api.OK)
	isLess(t, r(1, 2, 3), r(1, 2, 3, 0, 0), api.OK)
	isLess(t, r(1, 2, 3, 0, 0), r(1, 2, 3), api.OK)
	isLess(t, r(1, 2), r(0, 1, 0, 0), api.OK, 1, 1)
	isLess(t, r(top, top, top), r(0, top, 1), api.OK, top, 0, top-1)
	isLess(t, r(1<<63, 1<<32), r(1, 1), api.OK, 1<<63-1, 1<<32-1)
}

// P9.2: one place at which b is above a is enough for ErrRange, and then there is no row.
func TestLessRange(t *testing.T) {
	for n := 1; n < 10; n++ {
		for at := range n {
			a := slices.Repeat(r(5), n)
			b := slices.Clone(a)
			for _, x := range r(6, 7, 1<<32+5, 1<<63, top) {
				b[at] = x
				isLess(t, a, b, api.ErrRange)
				isLess(t, a, append(slices.Clone(b), 0, 0), api.ErrRange)
			}
			below := make([]uint64, n)
			below[at] = 6
			isLess(t, a, below, api.ErrRange)
			for behind := range 3 {
				far := append(make([]uint64, n+behind), 1)
				isLess(t, a, far, api.ErrRange)
				isLess(t, a[:at], far, api.ErrRange)
			}
		}
	}
	isLess(t, nil, r(1), api.ErrRange)
	isLess(t, r(), r(0, 0, 1), api.ErrRange)
	isLess(t, r(0), r(top), api.ErrRange)
	isLess(t, r(top-1), r(top), api.ErrRange)
	isLess(t, r(1, 2), r(2, 1), api.ErrRange)
	isLess(t, r(9, 9), r(1, 1, 1), api.ErrRange)
}

// P9.1, P9.2: of all small rows each call tells what the document's words tell.
func TestSmallRows(t *testing.T) {
	rows := small(0, 1, 2, top)
	for _, a := range rows {
		sum, e := sumInWords(a)
		isSum(t, a, sum, e)
		for _, b := range rows {
			isWorded(t, a, b)
		}
	}
	few := small(0, 1, top)
	for _, a := range few {
		for _, b := range few {
			for _, c := range few {
				what := fmt.Sprintf("%d, %d, %d", a, b, c)
				isRow(t, "Min of "+what, vec.Min(a, b, c), edgeInWords(false, a, b, c)...)
				isRow(t, "Max of "+what, vec.Max(a, b, c), edgeInWords(true, a, b, c)...)
			}
		}
	}
}

// P9.1, P9.2: and so they do of rows that look like chance.
func TestChanceRows(t *testing.T) {
	c := rand.New(rand.NewSource(9))
	for range 5000 {
		rows := make([][]uint64, c.Intn(8))
		for i := range rows {
			rows[i] = chanceRow(c, 12)
			sum, e := sumInWords(rows[i])
			isSum(t, rows[i], sum, e)
			isWorded(t, rows[i], rows[c.Intn(i+1)])
		}
		isRow(t, fmt.Sprintf("Min of %d", rows), vec.Min(rows...), edgeInWords(false, rows...)...)
		isRow(t, fmt.Sprintf("Max of %d", rows), vec.Max(rows...), edgeInWords(true, rows...)...)
	}
}

// P9.1, P9.2: long rows, and many of them beside a long one.
func TestLongRows(t *testing.T) {
	const n = 1 << 18
	a, b := make([]uint64, n), make([]uint64, n)
	for i := range n {
		a[i], b[i] = uint64(i+1), uint64(n-i)
	}
	high, low := vec.Max(a, b), vec.Min(a, b)
	if len(high) != n || len(low) != n || high[0] != n || high[n/2] != n/2+1 || low[0] != 1 || low[n/2] != n/2 {
		t.Errorf("got %d and %d places", len(high), len(low))
	}
	isSum(t, a, n/2*(n+1), api.OK)
	is(t, "Le", vec.Le(low, high), true)
	less, e := vec.Less(high, a)
	isErr(t, "Less", e, api.OK)
	if len(less) != n/2 || less[0] != n-1 || less[n/2-1] != 1 {
		t.Errorf("Less: got %d places", len(less))
	}
	rows := [][]uint64{a}
	for i := range 100000 {
		rows = append(rows, r(uint64(i), 7))
	}
	isRow(t, "Min of many", vec.Min(rows...), 0, 2)
	got := vec.Max(rows...)
	if len(got) != n || got[0] != 99999 || got[1] != 7 || got[2] != 3 || got[n-1] != n {
		t.Errorf("Max of many: got %d places", len(got))
	}
}

// P9.3: Le is an order: a row is below itself, two that are below one another are the same, and what is below through a third is below.
func TestLeIsAnOrder(t *testing.T) {
	rows := small(0, 1, 2, top)
	for _, a := range rows {
		is(t, fmt.Sprintf("Le of %d to itself", a), vec.Le(a, a), true)
		is(t, fmt.Sprintf("Same of %d to itself", a), vec.Same(a, a), true)
		for _, b := range rows {
			both := vec.Le(a, b) && vec.Le(b, a)
			is(t, fmt.Sprintf("Le of %d, %d both ways", a, b), both, vec.Same(a, b))
			is(t, fmt.Sprintf("Same of %d, %d, cut", a, b), vec.Same(a, b), slices.Equal(vec.Cut(a), vec.Cut(b)))
			if !vec.Le(a, b) {
				continue
			}
			for _, c := range rows {
				if vec.Le(b, c) && !vec.Le(a, c) {
					t.Errorf("%d is below %d, that below %d, but not the first below the last", a, b, c)
				}
			}
		}
	}
}

// P9.3: what is below both rows, and nothing else, is below Min; what is above both, and nothing else, is above Max.
func TestNearest(t *testing.T) {
	rows := small(0, 1, 2, top)
	for _, a := range rows {
		for _, b := range rows {
			low, high := vec.Min(a, b), vec.Max(a, b)
			for _, c := range rows {
				if vec.Le(c, low) != (vec.Le(c, a) && vec.Le(c, b)) {
					t.Errorf("%d, and Min of %d, %d, that is %d", c, a, b, low)
				}
				if vec.Le(high, c) != (vec.Le(a, c) && vec.Le(b, c)) {
					t.Errorf("%d, and Max of %d, %d, that is %d", c, a, b, high)
				}
			}
		}
	}
}

// P9.3: the same of many rows, that look like chance; their order, one that comes twice, and what is put together first, make no difference.
func TestNearestOfMany(t *testing.T) {
	c := rand.New(rand.NewSource(39))
	for range 3000 {
		rows := make([][]uint64, 1+c.Intn(6))
		for i := range rows {
			rows[i] = chanceRow(c, 6)
		}
		low, high := vec.Min(rows...), vec.Max(rows...)
		below, above := true, true
		other := chanceRow(c, 6)
		for _, v := range rows {
			is(t, fmt.Sprintf("Min of %d below %d", rows, v), vec.Le(low, v), true)
			is(t, fmt.Sprintf("Max of %d above %d", rows, v), vec.Le(v, high), true)
			below = below && vec.Le(other, v)
			above = above && vec.Le(v, other)
		}
		is(t, fmt.Sprintf("%d below Min of %d", other, rows), vec.Le(other, low), below)
		is(t, fmt.Sprintf("%d above Max of %d", other, rows), vec.Le(high, other), above)
		mixed := append(slices.Clone(rows), rows[c.Intn(len(rows))])
		c.Shuffle(len(mixed), func(i, j int) { mixed[i], mixed[j] = mixed[j], mixed[i] })
		isRow(t, fmt.Sprintf("Min of %d, mixed", rows), vec.Min(mixed...), low...)
		isRow(t, fmt.Sprintf("Max of %d, mixed", rows), vec.Max(mixed...), high...)
		for i := 1; i < len(rows); i++ {
			isRow(t, fmt.Sprintf("Min of %d, in two parts", rows), vec.Min(vec.Min(rows[:i]...), vec.Min(rows[i:]...)), low...)
			isRow(t, fmt.Sprintf("Max of %d, in two parts", rows), vec.Max(vec.Max(rows[:i]...), vec.Max(rows[i:]...)), high...)
		}
	}
}

// P9.3: what is less, and what was taken away, is what was there.
func TestTogetherAgain(t *testing.T) {
	check := func(a, b []uint64) {
		t.Helper()
		less, e := vec.Less(a, b)
		is(t, fmt.Sprintf("Less(%d, %d) goes", a, b), e == api.OK, vec.Le(b, a))
		if e == api.OK {
			is(t, fmt.Sprintf("Less(%d, %d), put together", a, b), vec.Same(together(less, b), a), true)
			is(t, fmt.Sprintf("Less(%d, %d) is below", a, b), vec.Le(less, a), true)
			isLess(t, a, less, api.OK, vec.Cut(b)...)
		}
	}
	rows := small(0, 1, 2, top)
	for _, a := range rows {
		for _, b := range rows {
			check(a, b)
		}
	}
	c := rand.New(rand.NewSource(93))
	for range 3000 {
		a, b := chanceRow(c, 9), chanceRow(c, 9)
		check(a, b)
		check(vec.Max(a, b), a)
		check(b, vec.Min(a, b))
	}
}

// handed is a row that is handed in, with room behind it, and with what stood in it and in that room.
type handed struct {
	row, was []uint64
}

// hand is a row like this one, with room behind it that an append could write into.
func hand(v []uint64) handed {
	all := append(slices.Clone(v), 77, 78, 79)
	return handed{all[:len(v)], slices.Clone(all)}
}

// isKept wants a row, and the room behind it, as it was.
func (h handed) isKept(t *testing.T, what string) {
	t.Helper()
	if all := h.row[:len(h.was)]; !slices.Equal(all, h.was) {
		t.Errorf("%s: got %d, it was %d", what, all, h.was)
	}
}

// scribble changes all of a row, and the room behind it.
func scribble(v []uint64) {
	all := v[:cap(v)]
	for i := range all {
		all[i] = 12345
	}
}

// rowCalls are all calls that answer a row, of two rows.
func rowCalls() map[string]func(a, b []uint64) []uint64 {
	less := func(a, b []uint64) []uint64 {
		l, _ := vec.Less(a, b)
		return l
	}
	return map[string]func(a, b []uint64) []uint64{
		"Cut":            func(a, _ []uint64) []uint64 { return vec.Cut(a) },
		"Min":            func(a, b []uint64) []uint64 { return vec.Min(a, b) },
		"Min of one":     func(a, _ []uint64) []uint64 { return vec.Min(a) },
		"Min of itself":  func(a, _ []uint64) []uint64 { return vec.Min(a, a, a) },
		"Min of three":   func(a, b []uint64) []uint64 { return vec.Min(a, b, a) },
		"Max":            func(a, b []uint64) []uint64 { return vec.Max(a, b) },
		"Max of one":     func(a, _ []uint64) []uint64 { return vec.Max(a) },
		"Max of itself":  func(a, _ []uint64) []uint64 { return vec.Max(a, a, a) },
		"Max with none":  func(a, _ []uint64) []uint64 { return vec.Max(nil, a, nil) },
		"Less":           less,
		"Less of none":   func(a, _ []uint64) []uint64 { return less(a, nil) },
		"Less of itself": func(a, _ []uint64) []uint64 { return less(a, a) },
	}
}

// P9.1, P9.2: no call changes what it was handed, and what one answers is nobody else's.
func TestNothingShared(t *testing.T) {
	rows := append(small(0, 2), r(1, 2, 3, 4, 5), r(5, 4, 3, 2, 1, 0, 0), r(top, top, 0, top, 0), make([]uint64, 40))
	for name, call := range rowCalls() {
		for _, v := range rows {
			for _, w := range rows {
				a, b := hand(v), hand(w)
				what := fmt.Sprintf("%s of %d, %d", name, v, w)
				first := call(a.row, b.row)
				want := slices.Clone(first)
				a.isKept(t, what)
				b.isKept(t, what)
				second := call(a.row, b.row)
				scribble(first)
				a.isKept(t, what+", the answer changed")
				b.isKept(t, what+", the answer changed")
				isRow(t, what+", the other answer", second, want...)
				scribble(a.row)
				scribble(b.row)
				isRow(t, what+", the rows changed", second, want...)
			}
		}
	}
}

// P9.1, P9.2: the calls that answer no row change nothing either.
func TestNothingChanged(t *testing.T) {
	rows := append(small(0, 1, top), r(1<<63, 1<<63, 1<<63), make([]uint64, 9))
	for _, v := range rows {
		for _, w := range rows {
			a, b := hand(v), hand(w)
			vec.At(a.row, len(w))
			vec.Same(a.row, b.row)
			vec.Le(a.row, b.row)
			vec.Sum(a.row)
			a.isKept(t, fmt.Sprintf("At, Same, Le, Sum of %d, %d", v, w))
			b.isKept(t, fmt.Sprintf("At, Same, Le, Sum of %d, %d", v, w))
		}
	}
}

// P9.2: a list of rows that is handed in is left as it is, row by row.
func TestListIsKept(t *testing.T) {
	for name, of := range map[string]func(...[]uint64) []uint64{"Min": vec.Min, "Max": vec.Max} {
		hands := []handed{hand(r(3, 0, 9)), hand(r(4, 5)), hand(nil), hand(r(1, 1, 1, 0))}
		var list [][]uint64
		for _, h := range hands {
			list = append(list, h.row)
		}
		kept := list[:3:4]
		scribble(of(kept...))
		for i, h := range hands {
			h.isKept(t, name)
			if len(list[i]) != len(h.row) || cap(list[i]) != cap(h.row) || &list[i][:1][0] != &h.row[:1][0] {
				t.Errorf("%s: row %d of the list is another one", name, i)
			}
		}
	}
}

// P9.1, P9.2: rows that lie in the same memory are rows like any others.
func TestOverlap(t *testing.T) {
	all := r(6, 5, 4, 3, 2, 1)
	isRow(t, "Min", vec.Min(all[:4], all[2:], all), 4, 3, 2, 1)
	isRow(t, "Max", vec.Max(all[2:], all[:4], all[1:]), 6, 5, 4, 3, 1)
	isLess(t, all[:5], all[1:], api.OK, 1, 1, 1, 1, 1)
	isLess(t, all[1:], all[:5], api.ErrRange)
	isRow(t, "all", all, 6, 5, 4, 3, 2, 1)
}

// P9.1, P9.2: the same calls have the same answers, whatever was asked between.
func TestSameAgain(t *testing.T) {
	run := func(a, b []uint64) string {
		sum, worn := vec.Sum(a)
		less, e := vec.Less(a, b)
		return fmt.Sprint(vec.At(a, 1), vec.Same(a, b), vec.Le(a, b), vec.Min(a, b), vec.Max(a, b), sum, worn, less, e, vec.Cut(a))
	}
	rows := small(0, 1, top)
	answers := map[string]string{}
	for range 2 {
		for _, a := range rows {
			for _, b := range rows {
				key := fmt.Sprint(a, b)
				got := run(a, b)
				if was, is := answers[key]; is && was != got {
					t.Errorf("%s: got %s, it was %s", key, got, was)
				}
				answers[key] = got
			}
		}
		slices.Reverse(rows)
	}
}
