package conf_test

import (
	"bytes"
	"fmt"
	"math"
	"reflect"
	"slices"
	"strings"
	"testing"

	"notcher/api"
	"notcher/conf"
)

// worded are the fields of the ops, in the document's own words: op 1 is the first one, and op 0 has none.
const worded = "Add: Client, Seq, Shard, Segs. Seal: Client, Seq, Shard, Rows. Trim: Client, Seq, Pos. Cut: Rows."

// ordered are all fields, in the order in which the struct has them.
const ordered = "Client, Seq, Shard, Segs, Pos, Rows"

const big = uint64(math.MaxUint64)

func allFields() []string { return strings.Split(ordered, ", ") }

// ops are those that there are.
func ops() []int { return []int{0, 1, 2, 3, 4} }

// fieldsOf are the fields of an op by the document's words: nothing of 0, and of one that there isn't.
func fieldsOf(op int) []string {
	l := strings.Split(strings.TrimSuffix(worded, "."), ". ")
	if op < 1 || op > len(l) {
		return nil
	}
	_, names, _ := strings.Cut(l[op-1], ": ")
	return strings.Split(names, ", ")
}

func has(op int, name string) bool { return slices.Contains(fieldsOf(op), name) }

// edges are the numbers that the document's limits, and the numbers of bytes, have edges at.
func edges() []uint64 {
	return []uint64{0, 1, 2, 3, 4, 5, 6, 7, 8, 9, 127, 128, 255, 256, 257, 263, 300, 65535, 65536, 1 << 32, 1<<32 + 1, 1<<56 - 1, 1 << 56, 1<<63 - 1, 1 << 63, 1<<63 + 1, big - 1, big}
}

// leastOf and topOf are the bounds of a field, or of another number of a command's bytes.
func leastOf(name string) uint64 {
	if name == "Segs" {
		return 1
	}
	return 0
}

func topOf(name string) uint64 {
	switch name {
	case "Shard":
		return 7
	case "Segs", "Lens":
		return 4
	case "Rows":
		return 8
	}
	return big
}

// lens is a row of lengths.
func lens(l ...uint64) []uint64 { return l }

// rowOf is a row of a shard with these lengths.
func rowOf(shard int, l ...uint64) conf.Row { return conf.Row{Shard: shard, Lens: l} }

// cutOf is a Cut of these rows.
func cutOf(l ...conf.Row) conf.Cmd { return conf.Cmd{Op: conf.Cut, Rows: l} }

// sealOf is a Seal of a shard, with these rows.
func sealOf(shard int, l ...conf.Row) conf.Cmd {
	return conf.Cmd{Op: conf.Seal, Client: 5, Seq: 6, Shard: shard, Rows: l}
}

// someRows are n rows of shards 0, 1, 2 and so on.
func someRows(n int) []conf.Row {
	l := make([]conf.Row, n)
	for i := range l {
		l[i] = rowOf(i, lens(9, 300, 0, 1<<40)[i%3:]...)
	}
	return l
}

// with is a command, one field of it changed to a number, or to so many rows.
func with(c conf.Cmd, name string, x uint64) conf.Cmd {
	switch f := reflect.ValueOf(&c).Elem().FieldByName(name); f.Kind() {
	case reflect.Uint64:
		f.SetUint(x)
	case reflect.Int:
		f.SetInt(int64(x))
	default:
		c.Rows = someRows(int(x))
	}
	return c
}

// zero is a command of an op, of whose fields as many as may be are 0, or nothing.
func zero(op int) conf.Cmd {
	c := conf.Cmd{Op: op}
	if op == conf.Add {
		c.Segs = 1
	}
	return c
}

// full is a command of an op with all of its fields, none of them 0 or the same as another one.
func full(op int) conf.Cmd {
	c := conf.Cmd{Op: op}
	for _, name := range fieldsOf(op) {
		switch name {
		case "Client":
			c.Client = 70001
		case "Seq":
			c.Seq = 302
		case "Shard":
			c.Shard = 6
		case "Segs":
			c.Segs = 3
		case "Pos":
			c.Pos = 1<<40 + 5
		case "Rows":
			c.Rows = []conf.Row{rowOf(6, 4, 0, 70000)}
		}
	}
	if op == conf.Cut {
		c.Rows = []conf.Row{rowOf(0, 1, 2, 3, 4), rowOf(3), rowOf(6, 4, 0, 70000), rowOf(7, big)}
	}
	return c
}

// goodRows are rows that may be.
func goodRows() [][]conf.Row {
	l := [][]conf.Row{
		nil,
		{},
		{rowOf(0)},
		{rowOf(7)},
		{{Shard: 2, Lens: []uint64{}}},
		{rowOf(0), rowOf(1)},
		{rowOf(0, 1), rowOf(7, 2)},
		{rowOf(1, 2, 300), rowOf(3)},
		{rowOf(6), rowOf(7, 5)},
		{rowOf(2, 1, 1), rowOf(4, 1, 1), rowOf(5, 1, 1)},
		{rowOf(3, 1, 0, 0, 1)},
		{rowOf(3, 0, 0, 0, 1)},
		{rowOf(3, 0, 1)},
		{rowOf(3, 0, 7, 0, 8), rowOf(4, 0, 0, 9)},
		someRows(7),
		someRows(8),
	}
	for _, x := range edges() {
		if x > 0 {
			l = append(l, []conf.Row{rowOf(4, x)}, []conf.Row{rowOf(4, x, x), rowOf(5, 0, x, x, x)})
		}
		l = append(l, []conf.Row{rowOf(4, x, 1)}, []conf.Row{rowOf(0, 1, x, 1), rowOf(7, x, x, x, 1)})
	}
	return l
}

// badRows are rows that may not be, by the name of what is wrong.
func badRows() map[string][]conf.Row {
	return map[string][]conf.Row{
		"shard -1":                       {rowOf(-1)},
		"shard 8":                        {rowOf(8)},
		"shard -1, lengths":              {rowOf(-1, 1)},
		"shard 8, lengths":               {rowOf(8, 1)},
		"shard 8 behind others":          {rowOf(3, 1), rowOf(7, 1), rowOf(8, 1)},
		"shard -1 ahead of others":       {rowOf(-1, 1), rowOf(0, 1), rowOf(1, 1)},
		"shard 256":                      {rowOf(256)},
		"shard 2^32":                     {rowOf(1 << 32)},
		"shard least":                    {rowOf(math.MinInt)},
		"shard greatest":                 {rowOf(math.MaxInt)},
		"shards alike":                   {rowOf(2, 1), rowOf(2, 1)},
		"shards alike, 0":                {rowOf(0), rowOf(0)},
		"shards alike, 7":                {rowOf(7, 1), rowOf(7, 2)},
		"shards alike behind":            {rowOf(1), rowOf(2), rowOf(5), rowOf(5)},
		"shards alike ahead":             {rowOf(1), rowOf(1), rowOf(2), rowOf(5)},
		"shards alike, not side by side": {rowOf(1), rowOf(2), rowOf(1)},
		"shards fall":                    {rowOf(2), rowOf(1)},
		"shards fall from 7 to 0":        {rowOf(7, 1), rowOf(0, 1)},
		"shards fall behind":             {rowOf(0), rowOf(3), rowOf(2)},
		"shards fall ahead":              {rowOf(3), rowOf(2), rowOf(5)},
		"shards fall by and by":          {rowOf(7), rowOf(6), rowOf(5), rowOf(4)},
		"five lengths":                   {rowOf(1, 1, 2, 3, 4, 5)},
		"five lengths behind":            {rowOf(1, 1, 2, 3, 4), rowOf(2, 1, 2, 3, 4, 5)},
		"five lengths ahead":             {rowOf(1, 1, 2, 3, 4, 5), rowOf(2, 1, 2, 3, 4)},
		"five lengths, a nought":         {rowOf(1, 1, 2, 3, 4, 0)},
		"six lengths":                    {rowOf(1, 1, 2, 3, 4, 5, 6)},
		"many lengths":                   {rowOf(1, slices.Repeat(lens(7), 300)...)},
		"a nought":                       {rowOf(1, 0)},
		"noughts alone":                  {rowOf(1, 0, 0, 0, 0)},
		"a nought at the end":            {rowOf(1, 1, 0)},
		"a nought as the fourth":         {rowOf(1, 1, 2, 3, 0)},
		"noughts at the end":             {rowOf(1, 1, 0, 0)},
		"a nought at the end behind":     {rowOf(1, 1), rowOf(2, 1, 0)},
		"a nought at the end ahead":      {rowOf(1, 1, 0), rowOf(2, 1)},
		"a nought at the end between":    {rowOf(1, 1), rowOf(2, 1, 0), rowOf(3, 1)},
		"nine rows":                      someRows(9),
		"nine rows alike":                slices.Repeat([]conf.Row{rowOf(1)}, 9),
		"nine rows, two alike":           append(someRows(8), rowOf(7)),
		"many rows":                      someRows(300),
	}
}

// withEdges are commands of an op, one field of its own at an edge, where that may be.
func withEdges(op int) []conf.Cmd {
	var l []conf.Cmd
	for _, name := range fieldsOf(op) {
		for _, x := range edges() {
			if x < leastOf(name) || x > topOf(name) {
				continue
			}
			for _, c := range []conf.Cmd{with(zero(op), name, x), with(full(op), name, x)} {
				if mayBeInWords(c) {
					l = append(l, c)
				}
			}
		}
	}
	return l
}

// seals are Seals of all shards, without a row, and with one of these.
func seals(l []conf.Row) []conf.Cmd {
	var out []conf.Cmd
	for shard := range 8 {
		out = append(out, sealOf(shard))
		for _, row := range l {
			out = append(out, sealOf(shard, rowOf(shard, row.Lens...)))
		}
	}
	return out
}

// good are commands of all ops that may be: with none of the fields, with one, and with all of them, at all edges.
func good() []conf.Cmd {
	var l []conf.Cmd
	for _, op := range ops() {
		l = append(l, zero(op), full(op))
		l = append(l, withEdges(op)...)
	}
	for _, rows := range goodRows() {
		l = append(l, cutOf(rows...))
		if len(rows) == 1 {
			l = append(l, seals(rows)...)
		}
	}
	for shard := range 8 {
		for segs := 1; segs <= 4; segs++ {
			l = append(l, conf.Cmd{Op: conf.Add, Client: 1, Seq: 2, Shard: shard, Segs: segs})
		}
	}
	return l
}

// rowsInWords tells whether rows may be, by the document's words.
func rowsInWords(l []conf.Row) bool {
	if len(l) > 8 {
		return false
	}
	for i, row := range l {
		for _, later := range l[i+1:] {
			if later.Shard <= row.Shard {
				return false
			}
		}
		n := len(row.Lens)
		if row.Shard < 0 || row.Shard > 7 || n > 4 || n > 0 && row.Lens[n-1] == 0 {
			return false
		}
	}
	return true
}

// mayBeInWords tells whether a command may be, by the document's words.
func mayBeInWords(c conf.Cmd) bool {
	if !slices.Contains(ops(), c.Op) {
		return false
	}
	v := reflect.ValueOf(c)
	for _, name := range allFields() {
		f := v.FieldByName(name)
		nothing := f.IsZero() || f.Kind() == reflect.Slice && f.Len() == 0
		if !has(c.Op, name) && !nothing {
			return false
		}
	}
	if c.Shard < 0 || c.Shard > 7 || c.Op == 1 && (c.Segs < 1 || c.Segs > 4) || !rowsInWords(c.Rows) {
		return false
	}
	return c.Op != 2 || len(c.Rows) == 0 || len(c.Rows) == 1 && c.Rows[0].Shard == c.Shard
}

// number is a number's bytes, reckoned by division, another way than package nums goes.
func number(x uint64) []byte {
	var low []byte
	for ; x > 0; x /= 256 {
		low = append(low, byte(x%256))
	}
	slices.Reverse(low)
	return append([]byte{byte(len(low))}, low...)
}

// part is one number of a command's bytes: what it is, and how it stands there.
type part struct {
	name string
	b    []byte
}

// partsOf are a command's numbers behind its op, by the document's words.
func partsOf(c conf.Cmd) []part {
	var l []part
	v := reflect.ValueOf(c)
	for _, name := range fieldsOf(c.Op) {
		switch f := v.FieldByName(name); {
		case name == "Rows":
			l = append(l, part{name, number(uint64(len(c.Rows)))})
			for _, row := range c.Rows {
				l = append(l, part{"Shard", number(uint64(row.Shard))}, part{"Lens", number(uint64(len(row.Lens)))})
				for _, x := range row.Lens {
					l = append(l, part{"a length", number(x)})
				}
			}
		case f.CanInt():
			l = append(l, part{name, number(uint64(f.Int()))})
		default:
			l = append(l, part{name, number(f.Uint())})
		}
	}
	return l
}

// joined are the bytes of an op and of parts.
func joined(op int, l []part) []byte {
	b := []byte{byte(op)}
	for _, p := range l {
		b = append(b, p.b...)
	}
	return b
}

// wantPut is a command's bytes by the document's words.
func wantPut(c conf.Cmd) []byte { return joined(c.Op, partsOf(c)) }

// source is bytes that are read number by number by the document's words.
type source struct {
	left []byte
	err  api.Errno
}

// fails keeps the first error.
func (s *source) fails(e api.Errno) uint64 {
	if s.err == api.OK {
		s.err = e
	}
	return 0
}

// number reads one that must be low to high.
func (s *source) number(low, high uint64) uint64 {
	switch {
	case s.err != api.OK:
		return 0
	case len(s.left) == 0:
		return s.fails(api.ErrShort)
	case s.left[0] > 8:
		return s.fails(api.ErrForm)
	case len(s.left) <= int(s.left[0]):
		return s.fails(api.ErrShort)
	}
	size := int(s.left[0])
	digits := s.left[1 : 1+size]
	if size > 0 && digits[0] == 0 {
		return s.fails(api.ErrForm)
	}
	s.left = s.left[1+size:]
	x := uint64(0)
	for _, c := range digits {
		x = x*256 + uint64(c)
	}
	if x < low || x > high {
		return s.fails(api.ErrForm)
	}
	return x
}

// wantGet is what Get must answer of bytes.
func wantGet(b []byte) (conf.Cmd, api.Errno) {
	if len(b) == 0 {
		return conf.Cmd{}, api.ErrShort
	}
	if b[0] > 4 {
		return conf.Cmd{}, api.ErrForm
	}
	c := conf.Cmd{Op: int(b[0])}
	s := &source{left: b[1:]}
	for _, name := range fieldsOf(c.Op) {
		switch name {
		case "Rows":
			for range s.number(0, 8) {
				row := conf.Row{Shard: int(s.number(0, 7))}
				for range s.number(0, 4) {
					row.Lens = append(row.Lens, s.number(0, big))
				}
				c.Rows = append(c.Rows, row)
			}
		case "Shard":
			c = with(c, name, s.number(0, 7))
		case "Segs":
			c = with(c, name, s.number(1, 4))
		default:
			c = with(c, name, s.number(0, big))
		}
	}
	switch {
	case s.err != api.OK:
		return conf.Cmd{}, s.err
	case len(s.left) > 0:
		return conf.Cmd{}, api.ErrLeft
	case !mayBeInWords(c):
		return conf.Cmd{}, api.ErrForm
	}
	return c, api.OK
}

func text(c conf.Cmd) string {
	rows := c.Rows
	c.Rows = rows[:min(len(rows), 9)]
	return fmt.Sprintf("%+v of %d rows", c, len(rows))
}

func same(t *testing.T, what string, got, want []byte) {
	t.Helper()
	if !bytes.Equal(got, want) {
		t.Errorf("%s: got % d, want % d", what, got, want)
	}
}

func isErr(t *testing.T, what string, got, want api.Errno) {
	t.Helper()
	if got != want {
		t.Errorf("%s: got error %d, want %d", what, got, want)
	}
}

// alike tells whether two commands are the same; nil and empty lists are one.
func alike(a, b conf.Cmd) bool {
	rows := slices.EqualFunc(a.Rows, b.Rows, func(x, y conf.Row) bool {
		return x.Shard == y.Shard && slices.Equal(x.Lens, y.Lens)
	})
	a.Rows, b.Rows = nil, nil
	return rows && reflect.DeepEqual(a, b)
}

func isCmd(t *testing.T, what string, got, want conf.Cmd) {
	t.Helper()
	if !alike(got, want) {
		t.Errorf("%s: got %s, want %s", what, text(got), text(want))
	}
}

// put is Put, of a command of which it must go.
func put(t *testing.T, c conf.Cmd) []byte {
	t.Helper()
	b, e := conf.Put(c)
	isErr(t, "Put of "+text(c), e, api.OK)
	return b
}

// gets asks Get, and says what it must answer.
func gets(t *testing.T, what string, b []byte, want conf.Cmd, e api.Errno) {
	t.Helper()
	c, err := conf.Get(b)
	isErr(t, what, err, e)
	isCmd(t, what, c, want)
}

// getRefuses says that Get must answer an error, and nothing beside it.
func getRefuses(t *testing.T, what string, b []byte, e api.Errno) {
	t.Helper()
	gets(t, what, b, conf.Cmd{}, e)
}

// taken says that Check and Put must take a command.
func taken(t *testing.T, c conf.Cmd) {
	t.Helper()
	isErr(t, "Check of "+text(c), conf.Check(c), api.OK)
	same(t, "Put of "+text(c), put(t, c), wantPut(c))
}

// refused says that Check and Put must refuse a command, and that nothing is put.
func refused(t *testing.T, c conf.Cmd) {
	t.Helper()
	isErr(t, "Check of "+text(c), conf.Check(c), api.ErrArg)
	b, e := conf.Put(c)
	isErr(t, "Put of "+text(c), e, api.ErrArg)
	same(t, "Put of "+text(c), b, nil)
}

// The ops' numbers are those of the document.
func TestOps(t *testing.T) {
	for i, op := range []int{conf.Nop, conf.Add, conf.Seal, conf.Trim, conf.Cut} {
		if op != i {
			t.Errorf("got op %d, want %d", op, i)
		}
	}
}

// P10.1: each op goes with none of its fields, with one, with all of them, and at their edges.
func TestCheckOfWhatMayBe(t *testing.T) {
	l := good()
	for _, c := range l {
		if !mayBeInWords(c) {
			t.Fatalf("%s: the test itself is wrong", text(c))
		}
		taken(t, c)
	}
	if len(l) < 500 {
		t.Errorf("got %d commands only", len(l))
	}
}

// P10.1: an op that there isn't, though its lowest byte may be that of one that there is.
func TestCheckOfOtherOps(t *testing.T) {
	for _, op := range []int{-1, -2, -4, -5, 5, 6, 7, 8, 127, 128, 255, 256, 257, 260, 65536, 1 << 32, 1<<32 + 3, -255, -256, math.MinInt, math.MinInt + 1, math.MaxInt} {
		refused(t, conf.Cmd{Op: op})
		for _, like := range ops() {
			c := full(like)
			c.Op = op
			refused(t, c)
		}
	}
	taken(t, conf.Cmd{})
	taken(t, conf.Cmd{Op: 4})
}

// P10.1: just one field that isn't the op's own is one too many, be there none of its own or all of them.
func TestCheckOfFieldsThatAreNotItsOwn(t *testing.T) {
	others := 0
	for _, op := range ops() {
		for _, name := range allFields() {
			if has(op, name) {
				continue
			}
			others++
			for _, c := range []conf.Cmd{zero(op), full(op)} {
				taken(t, c)
				for _, x := range edges() {
					if name == "Rows" {
						x = x%9 + 1
					}
					if x > 0 {
						refused(t, with(c, name, x))
					}
				}
			}
		}
	}
	if others != 18 {
		t.Errorf("got %d fields that aren't an op's own, want 18", others)
	}
	refused(t, conf.Cmd{Op: conf.Nop, Rows: []conf.Row{{}}})
	refused(t, conf.Cmd{Op: conf.Add, Segs: 1, Rows: []conf.Row{{}}})
	refused(t, conf.Cmd{Op: conf.Trim, Rows: []conf.Row{{}}})
}

// P10.1: rows go without items with each op, nil or empty, and whatever room they have; and so do lengths.
func TestCheckOfEmptyLists(t *testing.T) {
	for _, op := range ops() {
		for _, rows := range [][]conf.Row{nil, {}, make([]conf.Row, 0, 9), make([]conf.Row, 9)[4:4], someRows(9)[9:], someRows(9)[:0]} {
			c := zero(op)
			c.Rows = rows
			taken(t, c)
			same(t, "Put of "+text(c), put(t, c), wantPut(zero(op)))
		}
	}
	for _, none := range [][]uint64{nil, {}, make([]uint64, 0, 9), make([]uint64, 9)[4:4], lens(1, 2, 3)[:0]} {
		same(t, "Cut of a row without lengths", put(t, cutOf(conf.Row{Shard: 3, Lens: none})), []byte{4, 1, 1, 1, 3, 0})
		same(t, "Seal with a row without lengths", put(t, sealOf(3, conf.Row{Shard: 3, Lens: none})), []byte{2, 1, 5, 1, 6, 1, 3, 1, 1, 1, 3, 0})
	}
}

// P10.1: Shard is 0 to 7, of each op that has it.
func TestCheckOfShardsAtTheirEdges(t *testing.T) {
	for _, op := range []int{conf.Add, conf.Seal} {
		for _, c := range []conf.Cmd{zero(op), full(op)} {
			c.Rows = nil
			for shard := range 8 {
				c.Shard = shard
				taken(t, c)
			}
			for _, shard := range []int{-1, -2, -7, -8, 8, 9, 15, 16, 255, 256, 263, 65536, 1 << 32, 1<<32 + 7, -256, math.MinInt, math.MinInt + 1, math.MinInt + 7, math.MaxInt} {
				c.Shard = shard
				refused(t, c)
				if op == conf.Seal {
					refused(t, sealOf(shard, rowOf(shard, 1)))
				}
			}
		}
	}
}

// P10.1: Segs of Add is 1 to 4.
func TestCheckOfSegsAtTheirEdges(t *testing.T) {
	for _, c := range []conf.Cmd{{Op: conf.Add}, full(conf.Add)} {
		for segs := 1; segs <= 4; segs++ {
			c.Segs = segs
			taken(t, c)
		}
		for _, segs := range []int{0, -1, -2, -4, 5, 6, 8, 255, 256, 257, 260, 65537, 1<<32 + 1, -255, math.MinInt, math.MinInt + 1, math.MaxInt} {
			c.Segs = segs
			refused(t, c)
		}
	}
}

// P10.1: rows that may be, and rows that may not, each fault by itself.
func TestCheckOfRows(t *testing.T) {
	for _, rows := range goodRows() {
		taken(t, cutOf(rows...))
	}
	for name, rows := range badRows() {
		if rowsInWords(rows) {
			t.Fatalf("%s: the test itself is wrong", name)
		}
		refused(t, cutOf(rows...))
		refused(t, sealOf(rows[0].Shard, rows...))
		refused(t, conf.Cmd{Op: conf.Nop, Rows: rows})
	}
}

// P10.1: any shards, in any order: they go where they rise, and none is twice.
func TestCheckOfTheOrderOfRows(t *testing.T) {
	for a := -1; a <= 8; a++ {
		for b := -1; b <= 8; b++ {
			for c := -1; c <= 8; c++ {
				cmd := cutOf(rowOf(a, 1), rowOf(b, 2), rowOf(c, 3))
				if a >= 0 && a < b && b < c && c <= 7 {
					taken(t, cmd)
				} else {
					refused(t, cmd)
				}
			}
		}
	}
	for picked := range 256 {
		var up []conf.Row
		for shard := range 8 {
			if picked>>shard&1 == 1 {
				up = append(up, rowOf(shard, uint64(shard)+1))
			}
		}
		taken(t, cutOf(up...))
		down := slices.Clone(up)
		slices.Reverse(down)
		if len(up) > 1 {
			refused(t, cutOf(down...))
			refused(t, cutOf(append(up, up[0])...))
		}
	}
}

// P10.1: so many rows, and so many lengths, as there are shards and segments.
func TestCheckOfHowMany(t *testing.T) {
	for n := range 12 {
		c := cutOf(someRows(n)...)
		if n <= 8 {
			taken(t, c)
		} else {
			refused(t, c)
		}
		row := rowOf(5, slices.Repeat(lens(7), n)...)
		if n <= 4 {
			taken(t, cutOf(row))
			taken(t, cutOf(rowOf(1, 1), row, rowOf(6, 1)))
			taken(t, sealOf(5, row))
		} else {
			refused(t, cutOf(row))
			refused(t, cutOf(rowOf(1, 1), row, rowOf(6, 1)))
			refused(t, sealOf(5, row))
		}
	}
}

// P10.1: all rows of lengths of noughts and ones: just those without a nought at the end go.
func TestCheckOfNoughts(t *testing.T) {
	for n := range 6 {
		for bits := range 1 << n {
			var l []uint64
			for i := range n {
				l = append(l, uint64(bits>>i&1))
			}
			goes := n == 0 || n <= 4 && l[n-1] == 1
			for _, c := range []conf.Cmd{cutOf(rowOf(2, l...)), cutOf(rowOf(1, 3), rowOf(2, l...)), cutOf(rowOf(2, l...), rowOf(3)), sealOf(2, rowOf(2, l...))} {
				if goes {
					taken(t, c)
				} else {
					refused(t, c)
				}
			}
		}
	}
}

// P10.1: of Seal there is one row at most, and it is of its shard.
func TestCheckOfTheRowsOfSeal(t *testing.T) {
	for shard := range 8 {
		taken(t, sealOf(shard))
		for other := -1; other <= 8; other++ {
			c := sealOf(shard, rowOf(other, 1, 2))
			if other == shard {
				taken(t, c)
			} else {
				refused(t, c)
			}
			refused(t, sealOf(shard, rowOf(shard, 1), rowOf(other, 1)))
			refused(t, sealOf(shard, rowOf(other, 1), rowOf(shard, 1)))
			refused(t, sealOf(shard, rowOf(min(shard, other)), rowOf(max(shard, other))))
		}
	}
	for n := 2; n <= 9; n++ {
		for shard := range 8 {
			refused(t, sealOf(shard, someRows(n)...))
		}
	}
}

// P10.1: whatever the fields are, Check says what the document says: all together, out of a few numbers each.
func TestCheckIsAsWorded(t *testing.T) {
	rows := [][]conf.Row{nil, {rowOf(0)}, {rowOf(1, 5)}, {rowOf(1, 0)}, {rowOf(0), rowOf(1)}, {rowOf(1), rowOf(0)}}
	goes, tried := 0, 0
	for op := -1; op <= 5; op++ {
		for _, x := range []uint64{0, 1} {
			for _, y := range []uint64{0, big} {
				for _, z := range []uint64{0, 1} {
					for shard := -1; shard <= 8; shard++ {
						for segs := -1; segs <= 5; segs++ {
							for _, l := range rows {
								c := conf.Cmd{Op: op, Client: x, Seq: y, Shard: shard, Segs: segs, Pos: z, Rows: l}
								want := api.ErrArg
								if mayBeInWords(c) {
									want = api.OK
									goes++
								}
								tried++
								isErr(t, "Check of "+text(c), conf.Check(c), want)
							}
						}
					}
				}
			}
		}
	}
	if goes < 100 || tried < 10000 {
		t.Errorf("%d of %d go: the test itself is too small", goes, tried)
	}
}

// example is a command, and its bytes.
type example struct {
	c    conf.Cmd
	want []byte
}

// known are commands of all ops, their bytes written out; the document's example is the first one.
func known() []example {
	return []example{
		{conf.Cmd{Op: conf.Trim, Client: 1, Seq: 2, Pos: 5}, []byte{3, 1, 1, 1, 2, 1, 5}},
		{conf.Cmd{}, []byte{0}},
		{conf.Cmd{Op: conf.Add, Segs: 1}, []byte{1, 0, 0, 0, 1, 1}},
		{conf.Cmd{Op: conf.Add, Client: 3, Seq: 300, Shard: 7, Segs: 4}, []byte{1, 1, 3, 2, 1, 44, 1, 7, 1, 4}},
		{conf.Cmd{Op: conf.Seal}, []byte{2, 0, 0, 0, 0}},
		{conf.Cmd{Op: conf.Seal, Client: 3, Seq: 256, Shard: 2}, []byte{2, 1, 3, 2, 1, 0, 1, 2, 0}},
		{conf.Cmd{Op: conf.Seal, Client: 3, Seq: 4, Shard: 2, Rows: []conf.Row{{Shard: 2}}}, []byte{2, 1, 3, 1, 4, 1, 2, 1, 1, 1, 2, 0}},
		{conf.Cmd{Op: conf.Seal, Client: 3, Seq: 4, Shard: 2, Rows: []conf.Row{{Shard: 2, Lens: lens(9, 0, 300)}}}, []byte{2, 1, 3, 1, 4, 1, 2, 1, 1, 1, 2, 1, 3, 1, 9, 0, 2, 1, 44}},
		{conf.Cmd{Op: conf.Seal, Rows: []conf.Row{{Lens: lens(1)}}}, []byte{2, 0, 0, 0, 1, 1, 0, 1, 1, 1, 1}},
		{conf.Cmd{Op: conf.Trim}, []byte{3, 0, 0, 0}},
		{conf.Cmd{Op: conf.Trim, Client: 127, Seq: 128, Pos: 1 << 63}, []byte{3, 1, 127, 1, 128, 8, 128, 0, 0, 0, 0, 0, 0, 0}},
		{conf.Cmd{Op: conf.Cut}, []byte{4, 0}},
		{cutOf(rowOf(0, 2, 1)), []byte{4, 1, 1, 0, 1, 2, 1, 2, 1, 1}},
		{cutOf(rowOf(1, 2, 300), rowOf(3)), []byte{4, 1, 2, 1, 1, 1, 2, 1, 2, 2, 1, 44, 1, 3, 0}},
		{cutOf(rowOf(0), rowOf(6, 0, 0, 0, big), rowOf(7, 5)), []byte{4, 1, 3, 0, 0, 1, 6, 1, 4, 0, 0, 0, 8, 255, 255, 255, 255, 255, 255, 255, 255, 1, 7, 1, 1, 1, 5}},
		{cutOf(rowOf(0), rowOf(1), rowOf(2), rowOf(3), rowOf(4), rowOf(5), rowOf(6), rowOf(7)), []byte{4, 1, 8, 0, 0, 1, 1, 0, 1, 2, 0, 1, 3, 0, 1, 4, 0, 1, 5, 0, 1, 6, 0, 1, 7, 0}},
	}
}

// P10.2: commands of all ops, whose bytes are written out.
func TestPutOfWhatIsKnown(t *testing.T) {
	for _, c := range known() {
		same(t, "Put of "+text(c.c), put(t, c.c), c.want)
	}
}

// P10.2: fields in their order, numbers as nums puts them, of all widths.
func TestPutIsAsWorded(t *testing.T) {
	for _, c := range good() {
		same(t, "Put of "+text(c), put(t, c), wantPut(c))
	}
	for _, x := range edges() {
		n := number(x)
		add := slices.Concat([]byte{1}, n, []byte{1, 9, 1, 2, 1, 3})
		same(t, "Put of an Add", put(t, conf.Cmd{Op: conf.Add, Client: x, Seq: 9, Shard: 2, Segs: 3}), add)
		seal := slices.Concat([]byte{2, 1, 9}, n, []byte{1, 2, 1, 1, 1, 2, 1, 2}, n, []byte{1, 1})
		same(t, "Put of a Seal", put(t, conf.Cmd{Op: conf.Seal, Client: 9, Seq: x, Shard: 2, Rows: []conf.Row{rowOf(2, x, 1)}}), seal)
		trim := slices.Concat([]byte{3, 1, 9, 1, 8}, n)
		same(t, "Put of a Trim", put(t, conf.Cmd{Op: conf.Trim, Client: 9, Seq: 8, Pos: x}), trim)
		cut := slices.Concat([]byte{4, 1, 2, 1, 2, 1, 3}, n, n, []byte{1, 1, 1, 5, 1, 2}, n, []byte{1, 1})
		same(t, "Put of a Cut", put(t, cutOf(rowOf(2, x, x, 1), rowOf(5, x, 1))), cut)
	}
}

// P10.2: Check's error, and nothing beside it.
func TestPutOfWhatMayNotBe(t *testing.T) {
	for _, c := range []conf.Cmd{
		{Op: -1},
		{Op: 5},
		{Op: conf.Nop, Client: 1},
		{Op: conf.Add, Client: 1, Seq: 1},
		{Op: conf.Add, Segs: 1, Shard: 8},
		{Op: conf.Seal, Shard: -1},
		{Op: conf.Seal, Rows: []conf.Row{rowOf(1)}},
		{Op: conf.Trim, Pos: 1, Rows: []conf.Row{rowOf(1)}},
		{Op: conf.Cut, Seq: 1},
		cutOf(rowOf(1), rowOf(1)),
		cutOf(rowOf(1, 1, 0)),
	} {
		refused(t, c)
	}
}

// roomy are rows with room behind them, and behind their lengths, in which other things stand.
func roomy(l []conf.Row) []conf.Row {
	out := make([]conf.Row, 0, len(l)+2)
	for _, row := range l {
		room := slices.Concat(row.Lens, lens(8, 9))
		out = append(out, conf.Row{Shard: row.Shard, Lens: room[:len(row.Lens)]})
	}
	room := append(out, rowOf(77, 1), rowOf(78, 2))
	return room[:len(l)]
}

// untouched says that rows are as roomy made them, the room behind them, too.
func untouched(t *testing.T, what string, got, want []conf.Row) {
	t.Helper()
	all := got[:len(got)+2]
	if all[len(got)].Shard != 77 || all[len(got)+1].Shard != 78 {
		t.Errorf("%s: the room behind the rows was written to", what)
	}
	for i, row := range got {
		if row.Shard != want[i].Shard || !slices.Equal(row.Lens[:len(row.Lens)+2], slices.Concat(want[i].Lens, lens(8, 9))) {
			t.Errorf("%s: row %d was written to", what, i)
		}
	}
}

// P10.1, P10.2: what is handed in stays as it is, with the room behind it, be it taken or refused.
func TestCheckAndPutLeaveWhatIsHandedIn(t *testing.T) {
	rows := goodRows()
	for _, l := range badRows() {
		rows = append(rows, l)
	}
	for _, l := range rows {
		for _, c := range []conf.Cmd{cutOf(l...), sealOf(1, l...), {Op: conf.Nop, Rows: l}} {
			c.Rows = roomy(l)
			conf.Check(c)
			untouched(t, "Check of "+text(c), c.Rows, l)
			conf.Put(c)
			untouched(t, "Put of "+text(c), c.Rows, l)
		}
	}
}

// P10.2: what is put is in new memory, and hangs no more on the command.
func TestPutIsInNewMemory(t *testing.T) {
	for _, c := range good() {
		if len(c.Rows) > 0 {
			c.Rows = roomy(c.Rows)
		}
		want := wantPut(c)
		a, b := put(t, c), put(t, c)
		for i := range a {
			a[i] ^= 255
		}
		_ = append(a, 77, 77, 77, 77)
		same(t, "another answer", b, want)
		same(t, "a later answer", put(t, c), want)
		for i := range c.Rows {
			c.Rows[i].Shard += 100
			for j := range c.Rows[i].Lens {
				c.Rows[i].Lens[j]++
			}
		}
		same(t, "an answer behind which the command changed", b, want)
	}
}

// P10.3: commands of all ops are got of bytes that are written out.
func TestGetOfWhatIsKnown(t *testing.T) {
	for _, c := range known() {
		gets(t, fmt.Sprint("Get of ", c.want), c.want, c.c, api.OK)
	}
	for _, c := range good() {
		gets(t, "Get of "+text(c), wantPut(c), c, api.OK)
	}
}

// P10.3: bytes of which there are none, whatever room they have.
func TestGetOfNothing(t *testing.T) {
	for _, b := range [][]byte{nil, {}, make([]byte, 0, 9), known()[0].want[:0]} {
		getRefuses(t, "nothing", b, api.ErrShort)
	}
	b := []byte{3, 1, 1, 1, 2, 1, 5, 9, 9}
	gets(t, "with room behind", b[:7], known()[0].c, api.OK)
}

// P10.3: a first byte above 4, whatever stands behind it: it is a byte, no number of nums.
func TestGetOfOtherOps(t *testing.T) {
	tails := [][]byte{nil, {0}, {0, 0}, {0, 0, 0, 1, 1}, {9}, {1, 0}, {1}, make([]byte, 40), {1, 1, 1, 2, 1, 5}}
	for _, c := range good() {
		tails = append(tails, wantPut(c)[1:])
	}
	for op := range 256 {
		for _, tail := range tails {
			b := append([]byte{byte(op)}, tail...)
			want, e := wantGet(b)
			if op > 4 && e != api.ErrForm {
				t.Fatalf("op %d: the test itself has error %d", op, e)
			}
			gets(t, fmt.Sprint("Get of ", b), b, want, e)
		}
	}
	getRefuses(t, "5", []byte{5}, api.ErrForm)
	getRefuses(t, "255", []byte{255}, api.ErrForm)
	getRefuses(t, "op 1 as a number", []byte{1, 1, 0, 0, 0, 1, 1}, api.ErrForm)
}

// P10.3: each command's bytes, cut at every place, and with a byte more, or many.
func TestGetOfBytesCutAndMore(t *testing.T) {
	for _, c := range good() {
		b := wantPut(c)
		for n := range b {
			getRefuses(t, fmt.Sprint("cut: ", b, " at ", n), b[:n], api.ErrShort)
		}
		for _, more := range []byte{0, 1, 4, 8, 9, 255} {
			getRefuses(t, fmt.Sprint(b, " and ", more), slices.Concat(b, []byte{more}), api.ErrLeft)
		}
		getRefuses(t, fmt.Sprint(b, " twice"), slices.Concat(b, b), api.ErrLeft)
		getRefuses(t, fmt.Sprint(b, " and many"), slices.Concat(b, make([]byte, 1000)), api.ErrLeft)
	}
}

// noNumbers are bytes that can't be a number of what has that name, whatever stands behind them.
func noNumbers(name string) [][]byte {
	l := [][]byte{{9}, {9, 1, 2, 3, 4, 5, 6, 7, 8, 9}, {255}, {1, 0}, {2, 0, 1}, {8, 0, 1, 1, 1, 1, 1, 1, 1}}
	for _, x := range edges() {
		if x < leastOf(name) || x > topOf(name) {
			l = append(l, number(x))
		}
	}
	return l
}

// cutNumbers are bytes that end ahead of a number's end, also where its first byte is a 0.
func cutNumbers() [][]byte {
	l := [][]byte{nil}
	for size := 1; size <= 8; size++ {
		for n := range size {
			l = append(l, append([]byte{byte(size)}, make([]byte, n)...), append([]byte{byte(size)}, bytes.Repeat([]byte{5}, n)...))
		}
	}
	return l
}

// faulty are commands each of whose numbers is spoiled.
func faulty() []conf.Cmd {
	l := []conf.Cmd{
		sealOf(0, rowOf(0)),
		sealOf(7, rowOf(7, 1, 2, 3, 4)),
		cutOf(someRows(8)...),
		cutOf(rowOf(1), rowOf(2)),
		cutOf(rowOf(0, big, 0, 1<<63, big), rowOf(7, 0, 0, 0, 1)),
	}
	for _, op := range ops() {
		l = append(l, zero(op), full(op))
	}
	return l
}

// P10.3: in each number of each command: bytes that are none, or one that may not be. It is told as soon as it is read, whatever stands behind: nothing, the rest, too little, too much, or what is wrong, too.
func TestGetOfAFaultInEachNumber(t *testing.T) {
	for _, c := range faulty() {
		l := partsOf(c)
		for i, p := range l {
			ahead, behind := joined(c.Op, l[:i]), joined(0, l[i+1:])[1:]
			tails := [][]byte{nil, behind, behind[:len(behind)/2], slices.Concat(behind, []byte{7}), make([]byte, 99), {9}, {1, 0}, {1}, {1, 8, 1, 5, 9}, bytes.Repeat([]byte{255}, 99)}
			for _, bad := range noNumbers(p.name) {
				for _, tail := range tails {
					b := slices.Concat(ahead, bad, tail)
					getRefuses(t, fmt.Sprintf("%s: %s is % d, with % d behind", text(c), p.name, bad, tail), b, api.ErrForm)
				}
			}
			for _, bad := range cutNumbers() {
				getRefuses(t, fmt.Sprintf("%s: %s is % d", text(c), p.name, bad), slices.Concat(ahead, bad), api.ErrShort)
			}
		}
	}
}

// P10.3: the bounds of what is told as soon as it is read, written out: what they are, and one more.
func TestGetAtTheBounds(t *testing.T) {
	for _, c := range []struct {
		name string
		b    []byte
		err  api.Errno
	}{
		{"Add of shard 7", []byte{1, 0, 0, 1, 7, 1, 1}, api.OK},
		{"Add of shard 8", []byte{1, 0, 0, 1, 8, 1, 1}, api.ErrForm},
		{"Add of shard 8, nothing behind", []byte{1, 0, 0, 1, 8}, api.ErrForm},
		{"Add of shard 7, nothing behind", []byte{1, 0, 0, 1, 7}, api.ErrShort},
		{"Add of shard 8, a wrong number behind", []byte{1, 0, 0, 1, 8, 2, 1}, api.ErrForm},
		{"Add of shard 2^63", []byte{1, 0, 0, 8, 128, 0, 0, 0, 0, 0, 0, 0, 1, 1}, api.ErrForm},
		{"Add of shard 2^64 - 1, nothing behind", []byte{1, 0, 0, 8, 255, 255, 255, 255, 255, 255, 255, 255}, api.ErrForm},
		{"Add of 0 segments", []byte{1, 0, 0, 0, 0}, api.ErrForm},
		{"Add of 0 segments, a byte behind", []byte{1, 0, 0, 0, 0, 0}, api.ErrForm},
		{"Add of 1 segment", []byte{1, 0, 0, 0, 1, 1}, api.OK},
		{"Add of 4 segments", []byte{1, 0, 0, 0, 1, 4}, api.OK},
		{"Add of 4 segments, a byte behind", []byte{1, 0, 0, 0, 1, 4, 0}, api.ErrLeft},
		{"Add of 5 segments", []byte{1, 0, 0, 0, 1, 5}, api.ErrForm},
		{"Add of 5 segments, a byte behind", []byte{1, 0, 0, 0, 1, 5, 0}, api.ErrForm},
		{"Add without segments", []byte{1, 0, 0, 0}, api.ErrShort},
		{"Seal of shard 8", []byte{2, 0, 0, 1, 8}, api.ErrForm},
		{"Seal of shard 8, all behind", []byte{2, 0, 0, 1, 8, 1, 1, 1, 8, 0}, api.ErrForm},
		{"Seal of 8 rows, nothing behind", []byte{2, 0, 0, 0, 1, 8}, api.ErrShort},
		{"Seal of 9 rows, nothing behind", []byte{2, 0, 0, 0, 1, 9}, api.ErrForm},
		{"Seal of a row of shard 8", []byte{2, 0, 0, 0, 1, 1, 1, 8}, api.ErrForm},
		{"Seal of a row of 5 lengths", []byte{2, 0, 0, 0, 1, 1, 0, 1, 5}, api.ErrForm},
		{"Cut of 8 rows, nothing behind", []byte{4, 1, 8}, api.ErrShort},
		{"Cut of 9 rows, nothing behind", []byte{4, 1, 9}, api.ErrForm},
		{"Cut of 9 rows, noughts behind", append([]byte{4, 1, 9}, make([]byte, 18)...), api.ErrForm},
		{"Cut of 9 rows, a wrong number behind", []byte{4, 1, 9, 2, 1}, api.ErrForm},
		{"Cut of 2^63 rows", []byte{4, 8, 128, 0, 0, 0, 0, 0, 0, 0}, api.ErrForm},
		{"Cut of a row of shard 7", []byte{4, 1, 1, 1, 7, 0}, api.OK},
		{"Cut of a row of shard 7, nothing behind", []byte{4, 1, 1, 1, 7}, api.ErrShort},
		{"Cut of a row of shard 8, nothing behind", []byte{4, 1, 1, 1, 8}, api.ErrForm},
		{"Cut of a row of shard 8", []byte{4, 1, 1, 1, 8, 0}, api.ErrForm},
		{"Cut of a second row of shard 8, nothing behind", []byte{4, 1, 3, 1, 7, 0, 1, 8}, api.ErrForm},
		{"Cut of a row of shard 2^63", []byte{4, 1, 1, 8, 128, 0, 0, 0, 0, 0, 0, 0, 0}, api.ErrForm},
		{"Cut of a row of shard 2^64 - 1", []byte{4, 1, 1, 8, 255, 255, 255, 255, 255, 255, 255, 255, 0}, api.ErrForm},
		{"Cut of 4 lengths", []byte{4, 1, 1, 0, 1, 4, 0, 0, 0, 1, 1}, api.OK},
		{"Cut of 4 lengths, nothing behind", []byte{4, 1, 1, 0, 1, 4}, api.ErrShort},
		{"Cut of 5 lengths, nothing behind", []byte{4, 1, 1, 0, 1, 5}, api.ErrForm},
		{"Cut of 5 lengths", []byte{4, 1, 1, 0, 1, 5, 0, 0, 0, 0, 1, 1}, api.ErrForm},
		{"Cut of 5 lengths, a wrong number behind", []byte{4, 1, 1, 0, 1, 5, 9}, api.ErrForm},
		{"Nop, a byte behind", []byte{0, 0}, api.ErrLeft},
		{"Trim, a byte behind", []byte{3, 0, 0, 0, 9}, api.ErrLeft},
		{"Cut, a byte behind", []byte{4, 0, 255}, api.ErrLeft},
	} {
		want, e := wantGet(c.b)
		if e != c.err {
			t.Fatalf("%s: the test itself has error %d", c.name, e)
		}
		gets(t, c.name, c.b, want, c.err)
	}
}

// readable tells whether rows have no fault that is told as soon as it is read.
func readable(l []conf.Row) bool {
	for _, row := range l {
		if row.Shard < 0 || row.Shard > 7 || len(row.Lens) > 4 {
			return false
		}
	}
	return len(l) <= 8
}

// P10.3: rows that may not be, though each of their numbers may: ErrForm, but at the end only: behind a number that is none, and behind bytes that are left.
func TestGetOfRowsThatMayNotBe(t *testing.T) {
	cmds := []conf.Cmd{sealOf(3, rowOf(2)), sealOf(0, rowOf(7, 1)), sealOf(1, rowOf(1), rowOf(2)), sealOf(2, rowOf(1), rowOf(2)), sealOf(0, someRows(8)...)}
	for _, rows := range badRows() {
		if readable(rows) {
			cmds = append(cmds, cutOf(rows...), sealOf(rows[0].Shard, rows...))
		}
	}
	if len(cmds) < 40 {
		t.Fatalf("%d commands only: the test itself is wrong", len(cmds))
	}
	for _, c := range cmds {
		b := wantPut(c)
		what := "Get of " + text(c)
		getRefuses(t, what, b, api.ErrForm)
		getRefuses(t, what+" and a byte", slices.Concat(b, []byte{0}), api.ErrLeft)
		getRefuses(t, what+" and many", slices.Concat(b, b, b), api.ErrLeft)
		for n := range b {
			getRefuses(t, fmt.Sprint(what, " cut at ", n), b[:n], api.ErrShort)
		}
	}
}

// P10.3: what is handed in stays as it is, with the room behind it, be it taken or refused.
func TestGetLeavesWhatIsHandedIn(t *testing.T) {
	for _, c := range append(good(), cutOf(rowOf(2), rowOf(1)), cutOf(rowOf(1, 1, 0))) {
		want := slices.Concat(wantPut(c), []byte{1, 2, 3, 4})
		for n := range want {
			b := slices.Clone(want)
			conf.Get(b[:n])
			same(t, "what was handed in", b, want)
		}
	}
}

// P10.3: what is got is in new memory: it hangs no more on the bytes, and whoever changes it changes no other answer.
func TestGetIsInNewMemory(t *testing.T) {
	for _, want := range good() {
		b := wantPut(want)
		changed, _ := conf.Get(b)
		other, _ := conf.Get(b)
		for i := range changed.Rows {
			for j := range changed.Rows[i].Lens {
				changed.Rows[i].Lens[j] += 5
			}
			changed.Rows[i].Shard += 100
		}
		_ = append(changed.Rows, rowOf(99, 99))
		same(t, "what was handed in", b, wantPut(want))
		gets(t, "a later answer", b, want, api.OK)
		for i := range b {
			b[i] ^= 255
		}
		isCmd(t, "another answer", other, want)
	}
}

// P10.3: no two lists of one answer share anything: to let one grow changes no other one.
func TestGetsListsShareNothing(t *testing.T) {
	for _, want := range good() {
		c, _ := conf.Get(wantPut(want))
		for i := range c.Rows {
			_ = append(c.Rows[i].Lens, 77, 77, 77, 77, 77)
		}
		isCmd(t, "an answer whose lengths grew", c, want)
		for i := range c.Rows {
			for j := range c.Rows[i].Lens {
				c.Rows[i].Lens[j] = 0
			}
			for k := i + 1; k < len(c.Rows); k++ {
				if !slices.Equal(c.Rows[k].Lens, want.Rows[k].Lens) {
					t.Errorf("%s: rows %d and %d share lengths", text(want), i, k)
				}
			}
		}
	}
}

// P10.4: what is put is got, and put again as the same bytes.
func TestWhatIsPutIsGot(t *testing.T) {
	for _, c := range good() {
		b := put(t, c)
		got, e := conf.Get(b)
		isErr(t, "Get of what is put", e, api.OK)
		isCmd(t, "what is put", got, c)
		same(t, "what is put, got and put", put(t, got), b)
	}
}

// P10.4: two commands that differ have bytes that differ.
func TestBytesDifferWhereCommandsDo(t *testing.T) {
	seen := map[string]conf.Cmd{}
	try := func(c conf.Cmd) {
		b := string(put(t, c))
		if other, is := seen[b]; is && !alike(c, other) {
			t.Errorf("%s and %s have the same bytes", text(c), text(other))
		}
		seen[b] = c
	}
	for _, c := range good() {
		try(c)
	}
	few := []uint64{0, 1, 2, 256, 257}
	for _, x := range few {
		for _, y := range few {
			for _, z := range few {
				try(conf.Cmd{Op: conf.Trim, Client: x, Seq: y, Pos: z})
				try(cutOf(rowOf(1, x, y, z, 1)))
				try(cutOf(rowOf(1, x, 1), rowOf(2, y, z, 2)))
				for n := range 8 {
					try(conf.Cmd{Op: conf.Add, Client: x, Seq: y, Shard: n, Segs: 1 + int(z%4)})
					try(conf.Cmd{Op: conf.Seal, Client: x, Seq: y, Shard: n})
					try(conf.Cmd{Op: conf.Seal, Client: x, Seq: y, Shard: n, Rows: []conf.Row{rowOf(n, z, 1)}})
				}
			}
		}
	}
	if len(seen) < 2000 {
		t.Errorf("%d commands only", len(seen))
	}
}

// putAgain tells whether a command is got of bytes, as the document says; what is got must be put as the same bytes.
func putAgain(t *testing.T, b []byte) bool {
	t.Helper()
	want, e := wantGet(b)
	c, err := conf.Get(b)
	if err != e || !alike(c, want) {
		t.Errorf("Get of % d: got error %d and %s, want %d and %s", b, err, text(c), e, text(want))
	}
	if err != api.OK {
		return false
	}
	isErr(t, "Check of what was got", conf.Check(c), api.OK)
	same(t, "what is put of what was got", put(t, c), b)
	return true
}

// P10.4: what is got is put as the same bytes: of all rows of a few bytes, out of those that tell most.
func TestBytesThatAreGotArePut(t *testing.T) {
	few := []byte{0, 1, 2, 3, 4, 5, 8, 9}
	got := 0
	rows := [][]byte{{}}
	for range 7 {
		var longer [][]byte
		for _, row := range rows {
			if putAgain(t, row) {
				got++
			}
			for _, c := range few {
				longer = append(longer, append(row[:len(row):len(row)], c))
			}
		}
		rows = longer
	}
	if got < 100 {
		t.Errorf("got %d commands only", got)
	}
}

// P10.4: and of Cuts and Seals with rows, all numbers of which are of a few.
func TestRowsThatAreGotArePut(t *testing.T) {
	few := []uint64{0, 1, 2, 7, 8}
	got := 0
	for _, head := range [][]byte{{4, 1, 1}, {4, 1, 2}, {2, 0, 0, 0, 1, 1}, {2, 0, 1, 1, 1, 2, 1, 1}, {2, 0, 0, 1, 1, 1, 2}} {
		rows := [][]byte{head}
		for range 7 {
			var longer [][]byte
			for _, row := range rows {
				if putAgain(t, row) {
					got++
				}
				for _, x := range few {
					longer = append(longer, slices.Concat(row, number(x)))
				}
			}
			rows = longer
		}
	}
	if got < 100 {
		t.Errorf("got %d commands only", got)
	}
}

// P10.4: and of commands one byte of which was changed, or two.
func TestChangedBytesThatAreGotArePut(t *testing.T) {
	for _, c := range known() {
		for i := range c.want {
			for x := range 256 {
				b := slices.Clone(c.want)
				b[i] = byte(x)
				putAgain(t, b)
			}
			for j := range c.want[:i] {
				for _, x := range []byte{0, 1, 2, 3, 4, 5, 8, 9} {
					for _, y := range []byte{0, 1, 2, 3, 4, 5, 8, 9} {
						b := slices.Clone(c.want)
						b[i], b[j] = x, y
						putAgain(t, b)
					}
				}
			}
		}
	}
}

// P10.4: nothing stays of a command for the next one.
func TestCommandsKeepNothing(t *testing.T) {
	for range 2 {
		for _, op := range ops() {
			c := full(op)
			b := put(t, c)
			refused(t, conf.Cmd{Op: op, Shard: 8})
			getRefuses(t, "cut", b[:len(b)-1], api.ErrShort)
			gets(t, "whole", b, c, api.OK)
			gets(t, "with none of its fields", put(t, zero(op)), zero(op), api.OK)
		}
	}
}
