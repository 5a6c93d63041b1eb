package fold_test

import (
	"fmt"
	"math"
	"math/big"
	"math/rand"
	"slices"
	"testing"

	"notcher/api"
	"notcher/conf"
	"notcher/fold"
)

const top = uint64(math.MaxUint64)

// lens is a row of lengths.
func lens(l ...uint64) []uint64 { return l }

// rowOf is a row of a shard with these lengths.
func rowOf(shard int, l ...uint64) conf.Row { return conf.Row{Shard: shard, Lens: l} }

// addOf, cutOf, sealOf and trimOf are commands that nobody asked for.
func addOf(shard, segs int) conf.Cmd { return conf.Cmd{Op: conf.Add, Shard: shard, Segs: segs} }

func cutOf(l ...conf.Row) conf.Cmd { return conf.Cmd{Op: conf.Cut, Rows: l} }

func sealOf(shard int, l ...conf.Row) conf.Cmd {
	return conf.Cmd{Op: conf.Seal, Shard: shard, Rows: l}
}

func trimOf(pos uint64) conf.Cmd { return conf.Cmd{Op: conf.Trim, Pos: pos} }

// by is a command that somebody asked for.
func by(client, seq uint64, c conf.Cmd) conf.Cmd {
	c.Client, c.Seq = client, seq
	return c
}

// spanOf is a span.
func spanOf(pos uint64, shard, seg int, off, many uint64) fold.Span {
	return fold.Span{Pos: pos, Shard: shard, Seg: seg, Off: off, Many: many}
}

// shardOf is a shard that takes more, finalOf one that doesn't.
func shardOf(id, segs int, l ...uint64) fold.Shard { return fold.Shard{Id: id, Segs: segs, Lens: l} }

func finalOf(id, segs int, l ...uint64) fold.Shard {
	return fold.Shard{Id: id, Segs: segs, Lens: l, Final: true}
}

// behind is what stands in the room behind lists that are handed in.
const behind = 7777

// copied is a command that shares nothing with c, with some room behind its lists.
func copied(c conf.Cmd) conf.Cmd {
	rows := slices.Repeat([]conf.Row{rowOf(behind)}, len(c.Rows)+2)
	for i, row := range c.Rows {
		l := slices.Repeat(lens(behind), len(row.Lens)+5)
		copy(l, row.Lens)
		rows[i] = rowOf(row.Shard, l[:len(row.Lens)]...)
	}
	c.Rows = rows[:len(c.Rows)]
	return c
}

// roomIsLeft tells whether what stands in the room behind a copied command's lists is there still.
func roomIsLeft(c conf.Cmd) bool {
	for _, row := range c.Rows[len(c.Rows):cap(c.Rows)] {
		if row.Shard != behind || row.Lens != nil {
			return false
		}
	}
	for _, row := range c.Rows {
		for _, x := range row.Lens[len(row.Lens):cap(row.Lens)] {
			if x != behind {
				return false
			}
		}
	}
	return true
}

// model is what commands come to, told in the document's words: what doesn't go is taken back, and all is gone through from its start.
type model struct {
	shards []fold.Shard // in the order in which they came
	spans  []fold.Span
	low    uint64
	told   map[[2]uint64]api.Errno
}

func newModel() *model { return &model{told: map[[2]uint64]api.Errno{}} }

// backup is another model that is the same, but for what was told.
func (m *model) backup() *model {
	l := slices.Clone(m.shards)
	for i := range l {
		l[i].Lens = slices.Clone(l[i].Lens)
	}
	return &model{shards: l, spans: slices.Clone(m.spans), low: m.low}
}

// shard is the one of a number, or nil.
func (m *model) shard(id int) *fold.Shard {
	for i := range m.shards {
		if m.shards[i].Id == id {
			return &m.shards[i]
		}
	}
	return nil
}

// number is a row's number at a place, 0 behind its end.
func number(l []uint64, i int) uint64 {
	if i < len(l) {
		return l[i]
	}
	return 0
}

// whole is a number that may grow above 2^64.
func whole(x uint64) *big.Int { return new(big.Int).SetUint64(x) }

// end is how many positions there are.
func (m *model) end() *big.Int {
	n := new(big.Int)
	for _, x := range m.spans {
		n.Add(n, whole(x.Many))
	}
	return n
}

func (m *model) apply(c conf.Cmd) api.Errno {
	if e := conf.Check(c); e != api.OK {
		return e
	}
	who := [2]uint64{c.Client, c.Seq}
	asked := c.Client != 0 || c.Seq != 0
	if e, is := m.told[who]; asked && is {
		return e
	}
	was := m.backup()
	e := m.do(c)
	if e != api.OK {
		m.shards, m.spans, m.low = was.shards, was.spans, was.low
	}
	if asked {
		m.told[who] = e
	}
	return e
}

func (m *model) do(c conf.Cmd) api.Errno {
	switch c.Op {
	case 1:
		if m.shard(c.Shard) != nil {
			return api.ErrTwice
		}
		m.shards = append(m.shards, fold.Shard{Id: c.Shard, Segs: c.Segs})
	case 2:
		h := m.shard(c.Shard)
		if h == nil {
			return api.ErrNone
		}
		if h.Final {
			return api.ErrSealed
		}
		e := m.cut(c.Rows)
		h.Final = true // taken back, if that doesn't go
		return e
	case 3:
		if whole(c.Pos).Cmp(m.end()) > 0 {
			return api.ErrLater
		}
		if m.low <= c.Pos {
			m.low = c.Pos
		}
	case 4:
		return m.cut(c.Rows)
	}
	return api.OK
}

// goes is the error of a row.
func (m *model) goes(row conf.Row) api.Errno {
	h := m.shard(row.Shard)
	switch {
	case h == nil:
		return api.ErrNone
	case h.Final:
		return api.ErrSealed
	case h.Segs < len(row.Lens):
		return api.ErrRange
	}
	for i := range 4 {
		if number(h.Lens, i) > number(row.Lens, i) {
			return api.ErrRange
		}
	}
	return api.OK
}

func (m *model) cut(rows []conf.Row) api.Errno {
	for _, row := range rows {
		if e := m.goes(row); e != api.OK {
			return e
		}
	}
	n := m.end()
	for _, row := range rows {
		h := m.shard(row.Shard)
		for seg := range 4 {
			from, to := number(h.Lens, seg), number(row.Lens, seg)
			if from != to {
				m.spans = append(m.spans, spanOf(n.Uint64(), row.Shard, seg, from, to-from))
				n.Add(n, whole(to-from))
			}
		}
		h.Lens = slices.Clone(row.Lens)
	}
	if n.BitLen() > 64 {
		return api.ErrWorn // and what was done is taken back
	}
	return api.OK
}

// find is the record of a position: its span, and its place.
func (m *model) find(pos uint64) (shard, seg int, off uint64, e api.Errno) {
	if pos < m.low {
		return 0, 0, 0, api.ErrTrimmed
	}
	left := pos
	for _, x := range m.spans {
		if left < x.Many {
			return x.Shard, x.Seg, x.Off + left, api.OK
		}
		left -= x.Many
	}
	return 0, 0, 0, api.ErrLater
}

// place is the position of a record.
func (m *model) place(shard, seg int, off uint64) (uint64, api.Errno) {
	h := m.shard(shard)
	if h == nil || seg < 0 || seg >= h.Segs {
		return 0, api.ErrNone
	}
	pos, left := uint64(0), off
	for _, x := range m.spans {
		if x.Shard == shard && x.Seg == seg {
			if left < x.Many {
				return pos + left, api.OK
			}
			left -= x.Many
		}
		pos += x.Many
	}
	return 0, api.ErrLater
}

// sorted are the shards as they are told.
func (m *model) sorted() []fold.Shard {
	var l []fold.Shard
	for id := range 8 {
		if h := m.shard(id); h != nil {
			l = append(l, *h)
		}
	}
	return l
}

// sameShards tells whether two lists of shards are the same, with just the same lengths.
func sameShards(a, b []fold.Shard) bool {
	return slices.EqualFunc(a, b, func(x, y fold.Shard) bool {
		return x.Id == y.Id && x.Segs == y.Segs && x.Final == y.Final && slices.Equal(x.Lens, y.Lens)
	})
}

// hasShards and hasSpans check what a State tells; lists without items are one, be they nil or not.
func hasShards(t *testing.T, what string, s *fold.State, want ...fold.Shard) {
	t.Helper()
	if got := s.Shards(); !sameShards(got, want) {
		t.Fatalf("%s: shards are %v, want %v", what, got, want)
	}
}

func hasSpans(t *testing.T, what string, s *fold.State, want ...fold.Span) {
	t.Helper()
	if got := s.Spans(); !slices.Equal(got, want) {
		t.Fatalf("%s: spans are %v, want %v", what, got, want)
	}
}

func hasLen(t *testing.T, what string, s *fold.State, length, low uint64) {
	t.Helper()
	if s.Len() != length || s.Low() != low {
		t.Fatalf("%s: Len is %d, Low %d, want %d, %d", what, s.Len(), s.Low(), length, low)
	}
}

// near are numbers around others, in the order of numbers, each once.
func near(l ...uint64) []uint64 {
	var out []uint64
	for _, x := range l {
		out = append(out, x-1, x, x+1)
	}
	slices.Sort(out)
	return slices.Compact(out)
}

// finds checks Find of a position.
func finds(t *testing.T, what string, s *fold.State, pos uint64, shard, seg int, off uint64, e api.Errno) {
	t.Helper()
	h, g, o, err := s.Find(pos)
	if h != shard || g != seg || o != off || err != e {
		t.Fatalf("%s: Find of %d is %d %d %d, error %d, want %d %d %d, error %d", what, pos, h, g, o, err, shard, seg, off, e)
	}
}

// places checks Place of a record.
func places(t *testing.T, what string, s *fold.State, shard, seg int, off, pos uint64, e api.Errno) {
	t.Helper()
	if p, err := s.Place(shard, seg, off); p != pos || err != e {
		t.Fatalf("%s: Place of %d %d %d is %d, error %d, want %d, error %d", what, shard, seg, off, p, err, pos, e)
	}
}

// isLike checks all that a State tells: of each of its edges, and around it.
func isLike(t *testing.T, what string, s *fold.State, m *model) {
	t.Helper()
	length := m.end()
	if !length.IsUint64() {
		t.Fatalf("%s: the test itself has %v positions", what, length)
	}
	hasLen(t, what, s, length.Uint64(), m.low)
	hasShards(t, what, s, m.sorted()...)
	hasSpans(t, what, s, m.spans...)
	at := lens(0, m.low, length.Uint64(), top)
	for _, x := range m.spans {
		at = append(at, x.Pos, x.Pos+x.Many/2, x.Pos+x.Many-1)
	}
	for _, pos := range near(at...) {
		shard, seg, off, e := m.find(pos)
		finds(t, what, s, pos, shard, seg, off, e)
	}
	likePlaces(t, what, s, m)
}

// likePlaces checks Place around the edges of all spans, and of what there isn't.
func likePlaces(t *testing.T, what string, s *fold.State, m *model) {
	t.Helper()
	for shard := -1; shard <= 8; shard++ {
		for seg := -1; seg <= 4; seg++ {
			at := lens(0, top)
			for _, x := range m.spans {
				if x.Shard == shard && x.Seg == seg {
					at = append(at, x.Off, x.Off+x.Many/2, x.Off+x.Many)
				}
			}
			for _, off := range near(at...) {
				pos, e := m.place(shard, seg, off)
				places(t, what, s, shard, seg, off, pos, e)
			}
		}
	}
}

// step is a command, and what must be told of it.
type step struct {
	c conf.Cmd
	e api.Errno
}

// ok are steps that go.
func ok(l ...conf.Cmd) []step {
	var out []step
	for _, c := range l {
		out = append(out, step{c, api.OK})
	}
	return out
}

// then is one step more.
func then(l []step, c conf.Cmd, e api.Errno) []step {
	return append(l[:len(l):len(l)], step{c, e})
}

// told applies steps to a new State: of each the error must be the one that is written there, and the model's, and all that the State tells must be as the model's.
func told(t *testing.T, what string, l []step) (*fold.State, *model) {
	t.Helper()
	s, m := fold.New(), newModel()
	for i, x := range l {
		what := fmt.Sprintf("%s: step %d, %v", what, i, x.c)
		e := s.Apply(copied(x.c))
		if want := m.apply(x.c); want != x.e {
			t.Fatalf("%s: the test itself has error %d, and %d", what, x.e, want)
		}
		if e != x.e {
			t.Fatalf("%s: error %d, want %d", what, e, x.e)
		}
		isLike(t, what, s, m)
	}
	return s, m
}

// applied is a new State to which commands were applied, that must go.
func applied(t *testing.T, l ...conf.Cmd) *fold.State {
	t.Helper()
	s, _ := told(t, "ahead", ok(l...))
	return s
}

// gets checks Apply of one command.
func gets(t *testing.T, what string, s *fold.State, c conf.Cmd, e api.Errno) {
	t.Helper()
	if err := s.Apply(c); err != e {
		t.Fatalf("%s: Apply of %v: error %d, want %d", what, c, err, e)
	}
}

// look is all that a State tells of itself.
type look struct {
	shards   []fold.Shard
	spans    []fold.Span
	len, low uint64
}

func lookAt(s *fold.State) look { return look{s.Shards(), s.Spans(), s.Len(), s.Low()} }

// still checks that a State is as it was.
func still(t *testing.T, what string, s *fold.State, was look) {
	t.Helper()
	hasShards(t, what, s, was.shards...)
	hasSpans(t, what, s, was.spans...)
	hasLen(t, what, s, was.len, was.low)
}

// wrong are commands that conf.Check refuses, by the name of what is wrong.
func wrong() map[string]conf.Cmd {
	return map[string]conf.Cmd{
		"op -1":                      {Op: -1},
		"op 5":                       {Op: 5},
		"op 5, asked for":            {Op: 5, Client: 1, Seq: 1},
		"op greatest":                {Op: math.MaxInt},
		"op least":                   {Op: math.MinInt},
		"op 260":                     {Op: 260},
		"Nop by somebody":            {Client: 1, Seq: 1},
		"Nop of a client":            {Client: 1},
		"Nop of a number":            {Seq: 1},
		"Nop of a shard":             {Shard: 1},
		"Nop of rows":                {Rows: []conf.Row{rowOf(0, 9)}},
		"Add of shard 8":             addOf(8, 1),
		"Add of shard -1":            addOf(-1, 1),
		"Add of 0 segments":          by(1, 1, addOf(3, 0)),
		"Add of 5 segments":          by(1, 1, addOf(3, 5)),
		"Add of -1 segments":         addOf(3, -1),
		"Add with a position":        by(1, 1, conf.Cmd{Op: conf.Add, Shard: 3, Segs: 1, Pos: 1}),
		"Add with rows":              by(1, 1, conf.Cmd{Op: conf.Add, Shard: 3, Segs: 1, Rows: []conf.Row{rowOf(3)}}),
		"Seal of shard 8":            sealOf(8),
		"Seal of shard -1":           sealOf(-1),
		"Seal with segments":         by(1, 1, conf.Cmd{Op: conf.Seal, Segs: 2}),
		"Seal of another one's row":  by(1, 1, sealOf(0, rowOf(1, 9))),
		"Seal of two rows":           by(1, 1, sealOf(0, rowOf(0, 9), rowOf(1, 9))),
		"Seal of a row twice":        by(1, 1, sealOf(0, rowOf(0, 9), rowOf(0, 9))),
		"Seal of a row with noughts": by(1, 1, sealOf(0, rowOf(0, 9, 0))),
		"Seal of five lengths":       by(1, 1, sealOf(0, rowOf(0, 9, 9, 9, 9, 9))),
		"Trim of a shard":            by(1, 1, conf.Cmd{Op: conf.Trim, Pos: 1, Shard: 1}),
		"Trim with rows":             by(1, 1, conf.Cmd{Op: conf.Trim, Pos: 1, Rows: []conf.Row{rowOf(0, 9)}}),
		"Cut by somebody":            by(1, 1, cutOf(rowOf(0, 9, 9))),
		"Cut of a client":            by(1, 0, cutOf(rowOf(0, 9, 9))),
		"Cut of a number":            by(0, 1, cutOf(rowOf(0, 9, 9))),
		"Cut to a position":          {Op: conf.Cut, Pos: 1, Rows: []conf.Row{rowOf(0, 9, 9)}},
		"Cut of shard 8":             cutOf(rowOf(0, 9, 9), rowOf(8, 9)),
		"Cut of shard -1":            cutOf(rowOf(-1, 9)),
		"Cut of rows that fall":      cutOf(rowOf(1, 9), rowOf(0, 9, 9)),
		"Cut of rows alike":          cutOf(rowOf(0, 9, 9), rowOf(0, 9, 9)),
		"Cut with a nought":          cutOf(rowOf(0, 9, 9, 0)),
		"Cut with noughts alone":     cutOf(rowOf(0, 0)),
		"Cut of five lengths":        cutOf(rowOf(0, 9, 9, 9, 9, 9)),
		"Cut of nine rows":           cutOf(slices.Repeat([]conf.Row{rowOf(1)}, 9)...),
	}
}

// full are commands that go one behind the other, of all ops: three shards of several segments, cut and trimmed, and one of them sealed.
func full() []conf.Cmd {
	return []conf.Cmd{
		by(1, 1, addOf(3, 2)),
		by(1, 2, addOf(0, 4)),
		cutOf(rowOf(0, 0, 2, 0, 1), rowOf(3, 5)),
		{},
		by(2, 1, addOf(7, 1)),
		cutOf(rowOf(7, 3)),
		by(2, 2, trimOf(4)),
		cutOf(rowOf(0, 1, 2, 0, 4), rowOf(3, 5, 2), rowOf(7, 4)),
		by(3, 9, sealOf(3, rowOf(3, 6, 2))),
		cutOf(),
		by(1, 3, trimOf(9)),
		cutOf(rowOf(7, 9)),
	}
}

// P11.1: a new State is of nothing.
func TestNew(t *testing.T) {
	s := fold.New()
	isLike(t, "New", s, newModel())
	hasShards(t, "New", s)
	hasSpans(t, "New", s)
	hasLen(t, "New", s, 0, 0)
	finds(t, "New", s, 0, 0, 0, 0, api.ErrLater)
	places(t, "New", s, 0, 0, 0, 0, api.ErrNone)
}

// P11.1: two new States have nothing to do with one another, nor has what one is told with the other one.
func TestStatesShareNothing(t *testing.T) {
	a, b := fold.New(), fold.New()
	for _, c := range full() {
		gets(t, "the one", a, c, api.OK)
		isLike(t, "the other one", b, newModel())
	}
	was := lookAt(a)
	gets(t, "the other one", b, by(1, 1, trimOf(1)), api.ErrLater)
	gets(t, "the other one", b, by(1, 2, addOf(5, 1)), api.OK)
	gets(t, "the one", a, by(1, 1, trimOf(1)), api.OK)
	still(t, "the one", a, was)
}

// P11.1: the chapter's example: records of a segment on end, segment by segment.
func TestExample(t *testing.T) {
	s := applied(t, addOf(0, 2), cutOf(rowOf(0, 2, 1)))
	hasSpans(t, "the example", s, spanOf(0, 0, 0, 0, 2), spanOf(2, 0, 1, 0, 1))
	finds(t, "the example", s, 0, 0, 0, 0, api.OK)
	finds(t, "the example", s, 1, 0, 0, 1, api.OK)
	finds(t, "the example", s, 2, 0, 1, 0, api.OK)
}

// P11.1: all ops in turn, of several shards; each step is as the model's, and what came of them is written out.
func TestAllOps(t *testing.T) {
	s := applied(t, full()...)
	hasShards(t, "all ops", s, shardOf(0, 4, 1, 2, 0, 4), finalOf(3, 2, 6, 2), shardOf(7, 1, 9))
	hasSpans(t, "all ops", s,
		spanOf(0, 0, 1, 0, 2), spanOf(2, 0, 3, 0, 1), spanOf(3, 3, 0, 0, 5),
		spanOf(8, 7, 0, 0, 3),
		spanOf(11, 0, 0, 0, 1), spanOf(12, 0, 3, 1, 3), spanOf(15, 3, 1, 0, 2), spanOf(17, 7, 0, 3, 1),
		spanOf(18, 3, 0, 5, 1),
		spanOf(19, 7, 0, 4, 5))
	hasLen(t, "all ops", s, 24, 9)
}

// P11.1: of nil all commands are ErrArg: those that would go, too.
func TestApplyOfNil(t *testing.T) {
	var s *fold.State
	for _, c := range full() {
		gets(t, "nil", s, c, api.ErrArg)
	}
	for what, c := range wrong() {
		gets(t, "nil, "+what, s, c, api.ErrArg)
	}
}

// P11.1: what conf.Check refuses is told its error, ahead and behind of all else, and changes nothing.
func TestApplyOfWhatMayNotBe(t *testing.T) {
	for what, c := range wrong() {
		if conf.Check(c) == api.OK {
			t.Fatalf("%s: the test itself is wrong", what)
		}
		s, m := fold.New(), newModel()
		gets(t, what, s, c, conf.Check(c))
		isLike(t, what, s, m)
		s = applied(t, full()...)
		was := lookAt(s)
		gets(t, what, s, c, conf.Check(c))
		gets(t, what, s, copied(c), conf.Check(c))
		still(t, what, s, was)
	}
}

// P11.1: nothing is kept of what conf.Check refuses: a right command of the same Client and Seq is done, be it one that goes or not; and behind that the wrong one is told Check's error still.
func TestNothingIsKeptOfWhatMayNotBe(t *testing.T) {
	for what, bad := range wrong() {
		if bad.Client == 0 && bad.Seq == 0 {
			continue
		}
		for _, x := range []step{
			{addOf(5, 2), api.OK},
			{addOf(0, 2), api.ErrTwice},
			{sealOf(0, rowOf(0, 2, 1)), api.OK},
			{sealOf(5), api.ErrNone},
			{trimOf(2), api.OK},
			{trimOf(3), api.ErrLater},
		} {
			good := by(bad.Client, bad.Seq, x.c)
			steps := ok(addOf(0, 2), cutOf(rowOf(0, 1, 1)))
			steps = then(steps, bad, api.ErrArg)
			steps = then(steps, good, x.e)
			steps = then(steps, bad, api.ErrArg)
			told(t, what, then(steps, good, x.e))
		}
	}
}

// P11.1: a Nop changes nothing, wherever it stands.
func TestNop(t *testing.T) {
	var steps []step
	for _, c := range full() {
		steps = then(then(then(steps, conf.Cmd{}, api.OK), c, api.OK), conf.Cmd{Rows: []conf.Row{}}, api.OK)
	}
	s, _ := told(t, "Nops", steps)
	without := applied(t, full()...)
	still(t, "Nops", s, lookAt(without))
}

// P11.1: an Add of each shard, with as many segments as there may be: no Lens, not Final.
func TestAdd(t *testing.T) {
	for id := range 8 {
		for segs := 1; segs <= 4; segs++ {
			s := applied(t, addOf(id, segs))
			hasShards(t, "Add", s, shardOf(id, segs))
			hasSpans(t, "Add", s)
			hasLen(t, "Add", s, 0, 0)
			for seg := -1; seg <= 5; seg++ {
				e := api.ErrNone
				if seg >= 0 && seg < segs {
					e = api.ErrLater
				}
				places(t, "Add", s, id, seg, 0, 0, e)
			}
		}
	}
}

// P11.1: a second Add of a shard is ErrTwice, with as many segments, with others, with records, and when it is Final; its segments stay.
func TestAddTwice(t *testing.T) {
	for id := range 8 {
		steps := ok(addOf(id, 2))
		for segs := 1; segs <= 4; segs++ {
			steps = then(steps, addOf(id, segs), api.ErrTwice)
		}
		steps = then(steps, cutOf(rowOf(id, 1, 1)), api.OK)
		steps = then(steps, addOf(id, 3), api.ErrTwice)
		steps = then(steps, sealOf(id), api.OK)
		steps = then(steps, addOf(id, 2), api.ErrTwice)
		steps = then(steps, addOf((id+1)%8, 4), api.OK)
		steps = then(steps, addOf(id, 4), api.ErrTwice)
		s, _ := told(t, "Add twice", steps)
		places(t, "Add twice", s, id, 1, 0, 1, api.OK)
		places(t, "Add twice", s, id, 2, 0, 0, api.ErrNone)
	}
}

// P11.1: a Seal without rows, with a row of what there is, and with one that has new records: these have positions, and the shard is Final.
func TestSeal(t *testing.T) {
	for _, c := range []struct {
		what  string
		seal  conf.Cmd
		want  fold.Shard
		spans []fold.Span
	}{
		{"without rows", sealOf(4), finalOf(4, 3, 2, 0, 1), nil},
		{"with its lengths", sealOf(4, rowOf(4, 2, 0, 1)), finalOf(4, 3, 2, 0, 1), nil},
		{"with one more", sealOf(4, rowOf(4, 2, 1, 1)), finalOf(4, 3, 2, 1, 1), []fold.Span{spanOf(3, 4, 1, 0, 1)}},
		{"with more of all", sealOf(4, rowOf(4, 3, 2, 4)), finalOf(4, 3, 3, 2, 4), []fold.Span{spanOf(3, 4, 0, 2, 1), spanOf(4, 4, 1, 0, 2), spanOf(6, 4, 2, 1, 3)}},
	} {
		s := applied(t, addOf(4, 3), cutOf(rowOf(4, 2, 0, 1)), c.seal)
		hasShards(t, c.what, s, c.want)
		hasSpans(t, c.what, s, append([]fold.Span{spanOf(0, 4, 0, 0, 2), spanOf(2, 4, 2, 0, 1)}, c.spans...)...)
	}
}

// P11.1: a Seal of what was never cut, with an empty row and with none.
func TestSealOfNoRecords(t *testing.T) {
	for _, c := range []conf.Cmd{sealOf(2), sealOf(2, rowOf(2)), {Op: conf.Seal, Shard: 2, Rows: []conf.Row{}}} {
		s := applied(t, addOf(2, 1), c)
		hasShards(t, "sealed", s, finalOf(2, 1))
		hasSpans(t, "sealed", s)
	}
	s := applied(t, addOf(2, 4), sealOf(2, rowOf(2, 0, 3)))
	hasShards(t, "sealed at once", s, finalOf(2, 4, 0, 3))
	hasSpans(t, "sealed at once", s, spanOf(0, 2, 1, 0, 3))
}

// P11.1: the errors of a Seal, of which the first one is told; with each of them the shard isn't Final, and takes more.
func TestSealThatDoesNotGo(t *testing.T) {
	ahead := ok(addOf(1, 2), cutOf(rowOf(1, 2, 1)))
	for _, x := range []step{
		{sealOf(0), api.ErrNone},
		{sealOf(0, rowOf(0)), api.ErrNone},
		{sealOf(0, rowOf(0, 2, 1)), api.ErrNone},
		{sealOf(7, rowOf(7, 1, 1, 1, 1)), api.ErrNone},
		{sealOf(1, rowOf(1)), api.ErrRange},
		{sealOf(1, rowOf(1, 2)), api.ErrRange},
		{sealOf(1, rowOf(1, 1, 1)), api.ErrRange},
		{sealOf(1, rowOf(1, 0, 9)), api.ErrRange},
		{sealOf(1, rowOf(1, 9)), api.ErrRange},
		{sealOf(1, rowOf(1, 2, 1, 1)), api.ErrRange},
		{sealOf(1, rowOf(1, 0, 0, 0, 1)), api.ErrRange},
		{sealOf(1, rowOf(1, top, 0, 1)), api.ErrRange},
		{sealOf(1, rowOf(1, top, 1)), api.ErrWorn},
		{sealOf(1, rowOf(1, 2, top)), api.ErrWorn},
		{sealOf(1, rowOf(1, top, top)), api.ErrWorn},
	} {
		steps := then(ahead, x.c, x.e)
		s, _ := told(t, "Seal", then(steps, cutOf(rowOf(1, 3, 3)), api.OK))
		hasShards(t, "Seal", s, shardOf(1, 2, 3, 3))
	}
}

// P11.1: a shard that is Final takes no Seal, with whichever rows, and no Cut; others do.
func TestSealedShards(t *testing.T) {
	steps := ok(addOf(1, 2), addOf(6, 2), cutOf(rowOf(1, 2, 1), rowOf(6, 1, 1)), sealOf(1, rowOf(1, 2, 2)))
	for _, c := range []conf.Cmd{
		sealOf(1), sealOf(1, rowOf(1, 2, 2)), sealOf(1, rowOf(1, 3, 3)), sealOf(1, rowOf(1, 1)), sealOf(1, rowOf(1, 1, 1, 1)), sealOf(1, rowOf(1, top, top)),
		cutOf(rowOf(1)), cutOf(rowOf(1, 2, 2)), cutOf(rowOf(1, 3, 3)), cutOf(rowOf(1, 1)), cutOf(rowOf(1, 1, 1, 1)), cutOf(rowOf(1, top, top)),
		cutOf(rowOf(1, 2, 2), rowOf(6, 5, 5)),
		cutOf(rowOf(1, 2, 2), rowOf(6, 0, 5)),
		cutOf(rowOf(1, 2, 2), rowOf(7, 1)),
	} {
		steps = then(steps, c, api.ErrSealed)
	}
	steps = then(steps, cutOf(rowOf(6, 2, 2)), api.OK)
	steps = then(steps, sealOf(6, rowOf(6, 2, 3)), api.OK)
	s, _ := told(t, "sealed", then(steps, cutOf(rowOf(6, 3, 3)), api.ErrSealed))
	hasShards(t, "sealed", s, finalOf(1, 2, 2, 2), finalOf(6, 2, 2, 3))
	places(t, "sealed", s, 1, 1, 1, 5, api.OK)
}

// P11.1: a Trim is to Len at most, and Low never falls.
func TestTrim(t *testing.T) {
	steps := ok(trimOf(0))
	steps = then(steps, trimOf(1), api.ErrLater)
	steps = then(steps, trimOf(top), api.ErrLater)
	steps = append(steps, ok(addOf(0, 2), cutOf(rowOf(0, 3, 4)))...)
	steps = then(steps, trimOf(8), api.ErrLater)
	steps = then(steps, trimOf(top), api.ErrLater)
	for _, x := range []struct{ pos, low uint64 }{{0, 0}, {2, 2}, {2, 2}, {1, 2}, {0, 2}, {3, 3}, {2, 3}, {6, 6}, {5, 6}, {7, 7}, {7, 7}, {0, 7}, {6, 7}} {
		steps = then(steps, trimOf(x.pos), api.OK)
		s, _ := told(t, "Trim", steps)
		hasLen(t, "Trim", s, 7, x.low)
	}
	steps = then(steps, trimOf(8), api.ErrLater)
	steps = then(steps, cutOf(rowOf(0, 4, 4)), api.OK)
	s, _ := told(t, "Trim", then(steps, trimOf(8), api.OK))
	hasLen(t, "Trim", s, 8, 8)
	hasSpans(t, "Trim", s, spanOf(0, 0, 0, 0, 3), spanOf(3, 0, 1, 0, 4), spanOf(7, 0, 0, 3, 1))
}

// P11.1: a Cut without rows, with empty ones, and with what there is already: nothing is new.
func TestCutOfNothingNew(t *testing.T) {
	ahead := ok(cutOf(), addOf(0, 1), cutOf(rowOf(0)), addOf(5, 4), cutOf(rowOf(0), rowOf(5)), cutOf(rowOf(0, 2), rowOf(5, 0, 1)))
	s, _ := told(t, "nothing new", ahead)
	was := lookAt(s)
	for _, c := range []conf.Cmd{cutOf(), {Op: conf.Cut, Rows: []conf.Row{}}, cutOf(rowOf(0, 2)), cutOf(rowOf(5, 0, 1)), cutOf(rowOf(0, 2), rowOf(5, 0, 1))} {
		s, _ := told(t, "nothing new", then(ahead, c, api.OK))
		still(t, "nothing new", s, was)
	}
}

// P11.1: a span of each segment of which there are new records, and of no others, row by row, segment by segment; a second one of a segment is another span.
func TestCut(t *testing.T) {
	s := applied(t, addOf(2, 4), cutOf(rowOf(2, 1)), cutOf(rowOf(2, 2)), cutOf(rowOf(2, 5)))
	hasSpans(t, "on end", s, spanOf(0, 2, 0, 0, 1), spanOf(1, 2, 0, 1, 1), spanOf(2, 2, 0, 2, 3))
	s = applied(t, addOf(2, 4), cutOf(rowOf(2, 0, 0, 0, 2)), cutOf(rowOf(2, 0, 3, 0, 2)), cutOf(rowOf(2, 1, 3, 1, 5)))
	hasSpans(t, "here and there", s, spanOf(0, 2, 3, 0, 2), spanOf(2, 2, 1, 0, 3), spanOf(5, 2, 0, 0, 1), spanOf(6, 2, 2, 0, 1), spanOf(7, 2, 3, 2, 3))
	s = applied(t, addOf(6, 2), addOf(1, 2), addOf(4, 1), cutOf(rowOf(1, 1, 1), rowOf(4), rowOf(6, 0, 2)), cutOf(rowOf(1, 1, 2), rowOf(4, 1), rowOf(6, 0, 2)))
	hasSpans(t, "of three shards", s, spanOf(0, 1, 0, 0, 1), spanOf(1, 1, 1, 0, 1), spanOf(2, 6, 1, 0, 2), spanOf(4, 1, 1, 1, 1), spanOf(5, 4, 0, 0, 1))
	hasShards(t, "of three shards", s, shardOf(1, 2, 1, 2), shardOf(4, 1, 1), shardOf(6, 2, 0, 2))
}

// P11.1: a Cut of all shards there may be, each with all segments there may be, and one more of each of them.
func TestCutOfAll(t *testing.T) {
	var cmds []conf.Cmd
	var first, second []conf.Row
	var want []fold.Span
	for id := range 8 {
		cmds = append(cmds, addOf(7-id, 4))
		first = append(first, rowOf(id, 1, 2, 3, 4))
		second = append(second, rowOf(id, 2, 3, 4, 5))
	}
	for id := range 8 {
		for seg, pos := range []uint64{0, 1, 3, 6} {
			want = append(want, spanOf(uint64(10*id)+pos, id, seg, 0, uint64(seg+1)))
		}
	}
	for id := range 8 {
		for seg := range 4 {
			want = append(want, spanOf(uint64(80+4*id+seg), id, seg, uint64(seg+1), 1))
		}
	}
	s := applied(t, append(cmds, cutOf(first...), cutOf(second...))...)
	hasSpans(t, "all", s, want...)
	hasLen(t, "all", s, 112, 0)
}

// P11.1: which lengths a row may have: not fewer than there are at any place, and not of more segments than there are.
func TestLensOfARow(t *testing.T) {
	ahead := ok(addOf(3, 3), cutOf(rowOf(3, 2, 0, 1)))
	few := []uint64{0, 1, 2, 3}
	n := 0
	for _, a := range few {
		for _, b := range few {
			for _, c := range few {
				for _, d := range few[:2] {
					l := lens(a, b, c, d)
					for len(l) > 0 && l[len(l)-1] == 0 {
						l = l[:len(l)-1]
					}
					e := api.OK
					if a < 2 || c < 1 || d > 0 {
						e = api.ErrRange
						n++
					}
					told(t, "a row", then(ahead, cutOf(rowOf(3, l...)), e))
					told(t, "a row", then(ahead, sealOf(3, rowOf(3, l...)), e))
				}
			}
		}
	}
	if n == 0 || n == 128 {
		t.Fatalf("%d of 128 don't go: the test itself is wrong", n)
	}
}

// P11.1: as many lengths as a shard has segments, and one more.
func TestSegmentsOfARow(t *testing.T) {
	for segs := 1; segs <= 4; segs++ {
		for n := range 5 {
			l := make([]uint64, n)
			if n > 0 {
				l[n-1] = 1
			}
			e := api.OK
			if n > segs {
				e = api.ErrRange
			}
			told(t, "segments", then(ok(addOf(3, segs)), cutOf(rowOf(3, l...)), e))
			told(t, "segments", then(ok(addOf(3, segs)), sealOf(3, rowOf(3, l...)), e))
		}
	}
}

// faulty are rows of a shard each of which has an error of its own, of a State of mixed.
func faulty() map[api.Errno][]func(id int) conf.Row {
	return map[api.Errno][]func(id int) conf.Row{
		api.ErrRange: {
			func(id int) conf.Row { return rowOf(id, 1, 1) },
			func(id int) conf.Row { return rowOf(id, 2) },
			func(id int) conf.Row { return rowOf(id) },
			func(id int) conf.Row { return rowOf(id, 2, 1, 1) },
			func(id int) conf.Row { return rowOf(id, top, 0, 1) },
			func(id int) conf.Row { return rowOf(id, 0, top) },
		},
		api.OK: {
			func(id int) conf.Row { return rowOf(id, 2, 1) },
			func(id int) conf.Row { return rowOf(id, 3, 1) },
			func(id int) conf.Row { return rowOf(id, 5, 8) },
		},
		api.ErrWorn: {
			func(id int) conf.Row { return rowOf(id, top, top) },
			func(id int) conf.Row { return rowOf(id, 1<<63, 1<<63) },
		},
	}
}

// mixed are shards 1, 3 and 5, with 2 1 of two segments each; those in sealed are Final.
func mixed(sealed ...int) []step {
	l := ok(addOf(1, 2), addOf(3, 2), addOf(5, 2), cutOf(rowOf(1, 2, 1), rowOf(3, 2, 1), rowOf(5, 2, 1)))
	for _, id := range sealed {
		l = then(l, sealOf(id), api.OK)
	}
	return l
}

// P11.1: row by row: the first one that doesn't go tells its error, whatever stands behind; ErrWorn is told of rows all of which go. Nothing is kept of any row.
func TestFirstErrorOfRows(t *testing.T) {
	kinds := faulty()
	errs := []api.Errno{api.OK, api.ErrRange, api.ErrWorn}
	for _, ea := range errs {
		for _, a := range kinds[ea] {
			for _, eb := range errs {
				for _, b := range kinds[eb] {
					want := max(ea, eb) // ErrWorn, if there is no other one
					if ea == api.ErrRange || eb == api.ErrRange {
						want = api.ErrRange
					}
					told(t, "two rows", then(mixed(), cutOf(a(1), b(5)), want))
					told(t, "three rows", then(mixed(), cutOf(a(1), rowOf(3, 4, 4), b(5)), want))
				}
			}
		}
	}
}

// P11.1: the order of one row's errors: ErrNone, ErrSealed, ErrRange; and that of rows, whichever error each of them has.
func TestErrorsInOrder(t *testing.T) {
	kinds := faulty()
	for _, bad := range append(kinds[api.ErrRange], append(kinds[api.ErrWorn], kinds[api.OK]...)...) {
		e := api.ErrSealed
		told(t, "sealed", then(mixed(3), cutOf(bad(3)), e))
		told(t, "sealed ahead", then(mixed(1), cutOf(bad(1), rowOf(3, 2)), e))
		told(t, "sealed ahead of none", then(mixed(1), cutOf(bad(1), rowOf(4, 2)), e))
		told(t, "none", then(mixed(), cutOf(bad(4)), api.ErrNone))
		told(t, "none ahead of sealed", then(mixed(3), cutOf(bad(2), rowOf(3, 2)), api.ErrNone))
		told(t, "none ahead of less", then(mixed(3), cutOf(bad(0), rowOf(1, 1)), api.ErrNone))
		told(t, "a Seal of none", then(mixed(), sealOf(4, bad(4)), api.ErrNone))
		told(t, "a Seal twice", then(mixed(3), sealOf(3, bad(3)), e))
	}
	for _, bad := range kinds[api.ErrRange] {
		told(t, "less ahead of none", then(mixed(), cutOf(bad(1), rowOf(2, 9)), api.ErrRange))
		told(t, "less ahead of sealed", then(mixed(5), cutOf(bad(3), rowOf(5, 9, 9)), api.ErrRange))
	}
	for _, worn := range kinds[api.ErrWorn] {
		told(t, "many ahead of none", then(mixed(), cutOf(worn(1), rowOf(2, 9)), api.ErrNone))
		told(t, "many ahead of sealed", then(mixed(5), cutOf(worn(3), rowOf(5, 9, 9)), api.ErrSealed))
		told(t, "many", then(mixed(5), cutOf(worn(3)), api.ErrWorn))
	}
}

// P11.1: rows that go stand ahead of one that doesn't: nothing of them is kept, and they go by themselves behind it.
func TestNothingIsKeptOfRowsAhead(t *testing.T) {
	for _, x := range []step{
		{cutOf(rowOf(1, 9, 9), rowOf(3, 1)), api.ErrRange},
		{cutOf(rowOf(1, 9, 9), rowOf(2, 1)), api.ErrNone},
		{cutOf(rowOf(1, 9, 9), rowOf(5, 2, 1)), api.ErrSealed},
		{cutOf(rowOf(1, 9, 9), rowOf(3, 9, 9), rowOf(5, 9, 9)), api.ErrSealed},
		{cutOf(rowOf(1, 9, 9), rowOf(3, top, 1)), api.ErrWorn},
	} {
		s, _ := told(t, "rows ahead", then(then(mixed(5), x.c, x.e), cutOf(rowOf(1, 4, 2), rowOf(3, 2, 2)), api.OK))
		hasShards(t, "rows ahead", s, shardOf(1, 2, 4, 2), shardOf(3, 2, 2, 2), finalOf(5, 2, 2, 1))
		hasSpans(t, "rows ahead", s,
			spanOf(0, 1, 0, 0, 2), spanOf(2, 1, 1, 0, 1), spanOf(3, 3, 0, 0, 2), spanOf(5, 3, 1, 0, 1), spanOf(6, 5, 0, 0, 2), spanOf(8, 5, 1, 0, 1),
			spanOf(9, 1, 0, 2, 2), spanOf(11, 1, 1, 1, 1), spanOf(12, 3, 1, 1, 1))
	}
}

// P11.1: new records of one row, that are 2^64 - 1 together with Len, 2^64, and more.
func TestWornOfOneRow(t *testing.T) {
	for _, x := range []struct {
		l []uint64
		e api.Errno
	}{
		{lens(top), api.OK},
		{lens(0, 0, 0, top), api.OK},
		{lens(top-1, 1), api.OK},
		{lens(top, 1), api.ErrWorn},
		{lens(1, top), api.ErrWorn},
		{lens(1<<63, 1<<63-1), api.OK},
		{lens(1<<63, 1<<63), api.ErrWorn},
		{lens(1<<63, 1<<63, 1), api.ErrWorn},
		{lens(1<<63, 1<<63, 1<<63), api.ErrWorn},
		{lens(1<<63, 1<<63, 1<<63, 1<<63), api.ErrWorn},
		{lens(1<<62, 1<<62, 1<<62, 1<<62), api.ErrWorn},
		{lens(1<<62, 1<<62, 1<<62, 1<<62-1), api.OK},
		{lens(1<<62-1, 1<<62, 1<<62, 1<<62), api.OK},
		{lens(1<<62, 1<<62, 1<<62, 1<<62+1), api.ErrWorn},
		{lens(top, top), api.ErrWorn},
		{lens(top, top, top, top), api.ErrWorn},
		{lens(top, 2, top, 2), api.ErrWorn},
		{lens(top, 1, 0, 7), api.ErrWorn},
		{lens(7, 0, 1, top), api.ErrWorn},
		{lens(top-2, 1, 0, 1), api.OK},
		{lens(top-2, 1, 1, 1), api.ErrWorn},
	} {
		told(t, "a Cut", then(ok(addOf(0, 4)), cutOf(rowOf(0, x.l...)), x.e))
		told(t, "a Seal", then(ok(addOf(0, 4)), sealOf(0, rowOf(0, x.l...)), x.e))
	}
}

// P11.1: and behind positions that there are: what counts is what is new, and Len.
func TestWornBehindPositions(t *testing.T) {
	for _, length := range []uint64{1, 2, 5, 1 << 32, 1 << 63, top - 1, top} {
		ahead := ok(addOf(0, 2), addOf(4, 3), cutOf(rowOf(0, length)))
		left := top - length
		if left > 0 {
			told(t, "all that may be", then(ahead, cutOf(rowOf(4, left)), api.OK))
			told(t, "all that may be", then(ahead, cutOf(rowOf(0, length, left)), api.OK))
			told(t, "all that may be", then(ahead, cutOf(rowOf(0, top)), api.OK))
			told(t, "all that may be, sealed", then(ahead, sealOf(4, rowOf(4, 0, 0, left)), api.OK))
		}
		told(t, "one more", then(ahead, cutOf(rowOf(4, left+1)), api.ErrWorn))
		told(t, "one more", then(ahead, cutOf(rowOf(0, length, left+1)), api.ErrWorn))
		told(t, "one more", then(ahead, cutOf(rowOf(0, top, 1)), api.ErrWorn))
		told(t, "one more, sealed", then(ahead, sealOf(4, rowOf(4, left, 1)), api.ErrWorn))
		told(t, "all there are", then(ahead, cutOf(rowOf(4, top)), api.ErrWorn))
		told(t, "so many that 64 bits run over", then(ahead, cutOf(rowOf(4, top, top, top)), api.ErrWorn))
		told(t, "so many that 64 bits run over", then(ahead, cutOf(rowOf(0, length, top), rowOf(4, top)), api.ErrWorn))
		told(t, "nothing", then(ahead, cutOf(rowOf(0, length), rowOf(4)), api.OK))
	}
}

// P11.1: new records of several rows together: each goes by itself.
func TestWornOfSeveralRows(t *testing.T) {
	var adds []conf.Cmd
	var all, most []conf.Row
	for id := range 8 {
		adds = append(adds, addOf(id, 4))
		all = append(all, rowOf(id, 1<<61))
		most = append(most, rowOf(id, 1<<61))
	}
	most[5].Lens = lens(1<<61 - 1)
	ahead := ok(adds...)
	told(t, "eight that are 2^64", then(ahead, cutOf(all...), api.ErrWorn))
	s, _ := told(t, "eight that are 2^64 - 1", then(ahead, cutOf(most...), api.OK))
	hasLen(t, "eight that are 2^64 - 1", s, top, 0)
	for _, x := range []struct {
		a, b []uint64
		e    api.Errno
	}{
		{lens(1 << 63), lens(1<<63 - 1), api.OK},
		{lens(1 << 63), lens(1 << 63), api.ErrWorn},
		{lens(top), nil, api.OK},
		{nil, lens(top), api.OK},
		{lens(top), lens(1), api.ErrWorn},
		{lens(1), lens(top), api.ErrWorn},
		{lens(top), lens(0, 0, 0, top), api.ErrWorn},
		{lens(1<<63, 1<<62), lens(1 << 62), api.ErrWorn},
		{lens(1<<63, 1<<62), lens(0, 1<<62-1), api.OK},
		{lens(1<<63, 1<<62), lens(1<<62, 1<<63, 1<<62), api.ErrWorn},
		{lens(top, top, top, top), lens(4), api.ErrWorn},
	} {
		told(t, "two rows", then(ahead, cutOf(rowOf(2, x.a...), rowOf(7, x.b...)), x.e))
		told(t, "two rows, and an empty one", then(ahead, cutOf(rowOf(2, x.a...), rowOf(3), rowOf(7, x.b...)), x.e))
	}
}

// P11.1: at the end of all numbers: what is there goes on being found, and may be given up; nothing more goes, but what is no more.
func TestAtTheEndOfAllNumbers(t *testing.T) {
	steps := ok(addOf(0, 2), addOf(1, 1), cutOf(rowOf(0, 1, top-1)))
	steps = then(steps, cutOf(rowOf(0, 1, top-1)), api.OK)
	steps = then(steps, cutOf(rowOf(0, 2, top-1)), api.ErrWorn)
	steps = then(steps, cutOf(rowOf(1, 1)), api.ErrWorn)
	s, _ := told(t, "all numbers", steps)
	finds(t, "all numbers", s, 0, 0, 0, 0, api.OK)
	finds(t, "all numbers", s, 1, 0, 1, 0, api.OK)
	finds(t, "all numbers", s, top-1, 0, 1, top-2, api.OK)
	finds(t, "all numbers", s, top, 0, 0, 0, api.ErrLater)
	places(t, "all numbers", s, 0, 1, top-2, top-1, api.OK)
	places(t, "all numbers", s, 0, 1, top-1, 0, api.ErrLater)
	steps = then(steps, trimOf(top-1), api.OK)
	steps = then(steps, trimOf(top), api.OK)
	s, _ = told(t, "all numbers", then(steps, sealOf(0, rowOf(0, 1, top-1)), api.OK))
	hasLen(t, "all numbers", s, top, top)
	finds(t, "all numbers", s, top-1, 0, 0, 0, api.ErrTrimmed)
	finds(t, "all numbers", s, top, 0, 0, 0, api.ErrLater)
}

// whos are some that ask: without a number, without a client, and such that differ in one of both alone, or are the same two the other way round.
func whos() [][2]uint64 {
	return [][2]uint64{{0, 1}, {1, 0}, {1, 1}, {1, 2}, {2, 1}, {2, 2}, {0, 2}, {2, 0}, {12, 1}, {1, 21}, {top, 0}, {0, top}, {top, top}, {1 << 32, 1}, {1, 1 << 32}, {1<<32 + 1, 1}, {256, 1}, {1, 256}}
}

// P11.1: who asks a second time is told what was told then, and nothing changes: of the same command, of others, of what was refused and would go now, and of what went and wouldn't.
func TestWhoAsksTwice(t *testing.T) {
	others := []conf.Cmd{addOf(1, 1), addOf(2, 2), addOf(3, 3), sealOf(1), sealOf(1, rowOf(1, 3, 3)), sealOf(1, rowOf(1, 1)), sealOf(2), sealOf(4), trimOf(0), trimOf(1), trimOf(2), trimOf(99)}
	for _, who := range whos() {
		for _, first := range []step{
			{addOf(2, 2), api.OK}, {addOf(1, 2), api.ErrTwice},
			{sealOf(1), api.OK}, {sealOf(1, rowOf(1, 2, 2)), api.OK}, {sealOf(1, rowOf(1, 2)), api.ErrRange}, {sealOf(1, rowOf(1, top, 2)), api.ErrWorn}, {sealOf(2), api.ErrNone}, {sealOf(5, rowOf(5, 1)), api.ErrSealed},
			{trimOf(2), api.OK}, {trimOf(0), api.OK}, {trimOf(4), api.ErrLater},
		} {
			steps := ok(addOf(5, 1), sealOf(5), addOf(1, 2), cutOf(rowOf(1, 2, 1)))
			c := by(who[0], who[1], first.c)
			steps = then(then(steps, c, first.e), c, first.e)
			for _, other := range others {
				steps = then(steps, by(who[0], who[1], other), first.e)
			}
			steps = then(steps, by(77, 77, addOf(6, 1)), api.OK)
			steps = then(steps, cutOf(rowOf(6, 8)), api.OK)
			steps = then(steps, c, first.e)
			told(t, fmt.Sprint("who asks twice, ", who), steps)
		}
	}
}

// P11.1: what was refused and would go now is refused still; another number of the client, and another client with the number, go.
func TestRefusedAndWouldGo(t *testing.T) {
	steps := then(ok(addOf(0, 1)), by(5, 3, trimOf(4)), api.ErrLater)
	steps = then(steps, cutOf(rowOf(0, 6)), api.OK)
	steps = then(steps, by(5, 3, trimOf(4)), api.ErrLater)
	s, _ := told(t, "refused", steps)
	hasLen(t, "refused", s, 6, 0)
	steps = then(steps, by(5, 4, trimOf(4)), api.OK)
	steps = then(steps, by(6, 3, trimOf(5)), api.OK)
	steps = then(steps, by(3, 5, trimOf(6)), api.OK)
	s, _ = told(t, "refused", steps)
	hasLen(t, "refused", s, 6, 6)
}

// P11.1: each two that ask are two, as long as one number of both differs: they have errors of their own.
func TestWhoAsksIsBothNumbers(t *testing.T) {
	var steps []step
	for i, who := range whos() {
		e := api.OK
		if i > 0 {
			e = api.ErrTwice
		}
		steps = then(steps, by(who[0], who[1], addOf(4, 1)), e)
	}
	steps = then(steps, cutOf(rowOf(4, 2)), api.OK)
	for i, who := range whos() {
		e := api.OK
		if i > 0 {
			e = api.ErrTwice
		}
		steps = then(steps, by(who[0], who[1], trimOf(2)), e)
	}
	s, _ := told(t, "who asks", steps)
	hasLen(t, "who asks", s, 2, 0)
}

// P11.1: what nobody asked for is done each time: of it nothing is known.
func TestNobodyAsks(t *testing.T) {
	steps := then(nil, trimOf(2), api.ErrLater)
	steps = then(steps, sealOf(3), api.ErrNone)
	steps = then(steps, addOf(3, 2), api.OK)
	steps = then(steps, addOf(3, 2), api.ErrTwice)
	steps = then(steps, addOf(4, 2), api.OK)
	steps = then(steps, cutOf(rowOf(3, 2)), api.OK)
	steps = then(steps, cutOf(rowOf(3, 1)), api.ErrRange)
	steps = then(steps, cutOf(rowOf(3, 3)), api.OK)
	steps = then(steps, trimOf(4), api.ErrLater)
	steps = then(steps, trimOf(2), api.OK)
	steps = then(steps, trimOf(3), api.OK)
	steps = then(steps, sealOf(3), api.OK)
	s, _ := told(t, "nobody", then(steps, sealOf(3), api.ErrSealed))
	hasLen(t, "nobody", s, 3, 3)
}

// P11.1: who asked for very many is told of each of them, still.
func TestManyAsk(t *testing.T) {
	s := applied(t, addOf(0, 1), cutOf(rowOf(0, 500)))
	want := func(i uint64) api.Errno {
		if i%3 == 0 {
			return api.ErrLater
		}
		return api.OK
	}
	for i := uint64(1); i <= 900; i++ {
		pos := i / 2
		if i%3 == 0 {
			pos = 501
		}
		gets(t, "once", s, by(i%7, i, trimOf(pos)), want(i))
	}
	gets(t, "more positions", s, cutOf(rowOf(0, 600)), api.OK)
	was := lookAt(s)
	for i := uint64(1); i <= 900; i++ {
		gets(t, "twice", s, by(i%7, i, trimOf(600-i%2*600)), want(i))
	}
	still(t, "twice", s, was)
}

// P11.1: the command that is handed in is as it was, whatever is told; what the caller does with it, and with the room behind it, changes nothing.
func TestApplyLeavesWhatIsHandedIn(t *testing.T) {
	s, m := fold.New(), newModel()
	l := full()
	for _, c := range wrong() {
		l = append(l, c)
	}
	l = append(l, cutOf(rowOf(0, 9, 9, 9, 9), rowOf(7, 1)), cutOf(rowOf(0, 9, 9, 9, 9), rowOf(7, top)), sealOf(0, rowOf(0, 9)), sealOf(0, rowOf(0, 9, 9, 9, 9)))
	for _, c := range l {
		handed := copied(c)
		e := s.Apply(handed)
		if want := m.apply(copied(c)); e != want {
			t.Fatalf("Apply of %v: error %d, want %d", c, e, want)
		}
		if handed.Op != c.Op || len(handed.Rows) != len(c.Rows) {
			t.Fatalf("%v became %v", c, handed)
		}
		for i, row := range handed.Rows {
			if row.Shard != c.Rows[i].Shard || !slices.Equal(row.Lens, c.Rows[i].Lens) {
				t.Fatalf("%v became %v", c, handed)
			}
		}
		if !roomIsLeft(handed) {
			t.Fatalf("%v: what stands behind its lists changed: %v", c, handed)
		}
		for i := range handed.Rows {
			for j := range handed.Rows[i].Lens {
				handed.Rows[i].Lens[j] += 1000
			}
			_ = append(handed.Rows[i].Lens, 77, 77)
			handed.Rows[i] = rowOf(6, 5)
		}
		isLike(t, fmt.Sprintf("changed behind Apply of %v", c), s, m)
	}
}

// P11.2: shards by rising Id, in whichever order they came.
func TestShardsRise(t *testing.T) {
	r := rand.New(rand.NewSource(1))
	for range 200 {
		var cmds []conf.Cmd
		ids := r.Perm(8)[:1+r.Intn(8)]
		for _, id := range ids {
			cmds = append(cmds, addOf(id, 1+id%4))
		}
		s := applied(t, cmds...)
		slices.Sort(ids)
		var want []fold.Shard
		for _, id := range ids {
			want = append(want, shardOf(id, 1+id%4))
		}
		for range 5 {
			hasShards(t, fmt.Sprint(cmds), s, want...)
		}
	}
}

// P11.2: Lens have no noughts behind, but those between, whatever the shard has of segments.
func TestLensWithoutNoughtsBehind(t *testing.T) {
	s := applied(t, addOf(2, 4), addOf(3, 4), addOf(5, 4), cutOf(rowOf(3, 1), rowOf(5, 0, 0, 2)))
	hasShards(t, "noughts", s, shardOf(2, 4), shardOf(3, 4, 1), shardOf(5, 4, 0, 0, 2))
	if l := s.Shards(); len(l[0].Lens) != 0 || len(l[1].Lens) != 1 || len(l[2].Lens) != 3 {
		t.Errorf("shards are %v", l)
	}
}

// P11.2: Shards, Spans, Len and Low of nil are nothing.
func TestNilTellsNothing(t *testing.T) {
	var s *fold.State
	hasShards(t, "nil", s)
	hasSpans(t, "nil", s)
	hasLen(t, "nil", s, 0, 0)
}

// P11.2: what Shards and Spans tell is new memory: whoever changes it, or lets it grow, changes neither the State nor another answer, nor another list of it.
func TestAnswersAreNewMemory(t *testing.T) {
	l := full()
	for n := range l {
		s, m := fold.New(), newModel()
		for _, c := range l[:n+1] {
			s.Apply(c)
			m.apply(c)
		}
		shards, spans := s.Shards(), s.Spans()
		other := lookAt(s)
		was := lookAt(s)
		for i := range shards {
			_ = append(shards[i].Lens, 77, 77, 77, 77)
		}
		if !sameShards(shards, was.shards) {
			t.Fatalf("shards are %v, their lengths having grown, want %v", shards, was.shards)
		}
		for i := range shards {
			for j := range shards[i].Lens {
				shards[i].Lens[j] += 1000
			}
			for k := i + 1; k < len(shards); k++ {
				if !slices.Equal(shards[k].Lens, was.shards[k].Lens) {
					t.Fatalf("shards %d and %d share lengths", i, k)
				}
			}
			shards[i] = finalOf(9, 9, 9)
		}
		for i := range spans {
			spans[i] = spanOf(9, 9, 9, 9, 9)
		}
		_, _ = append(shards, finalOf(9, 9)), append(spans, spanOf(9, 9, 9, 9, 9))
		isLike(t, "a State whose answers were changed", s, m)
		if !sameShards(other.shards, was.shards) || !slices.Equal(other.spans, was.spans) {
			t.Fatalf("another answer changed: %v", other)
		}
	}
}

// P11.2: an answer stays as it is, whatever is applied then.
func TestAnswersStay(t *testing.T) {
	s, m := fold.New(), newModel()
	var answers, wants []look
	for _, c := range full() {
		s.Apply(c)
		m.apply(c)
		was := m.backup()
		answers = append(answers, lookAt(s))
		wants = append(wants, look{was.sorted(), was.spans, was.end().Uint64(), was.low})
	}
	for i, x := range answers {
		if want := wants[i]; !sameShards(x.shards, want.shards) || !slices.Equal(x.spans, want.spans) || x.len != want.len || x.low != want.low {
			t.Fatalf("answer %d is %v, want %v", i, x, want)
		}
	}
}

// P11.2: to ask changes nothing: a State that is asked all the time is as one that is asked at the end.
func TestAskingChangesNothing(t *testing.T) {
	asked, m := told(t, "asked", ok(full()...))
	quiet := fold.New()
	for _, c := range full() {
		gets(t, "quiet", quiet, c, api.OK)
	}
	isLike(t, "quiet", quiet, m)
	still(t, "asked", asked, lookAt(quiet))
}

// P11.3: Find and Place of nil are ErrArg, and tell nothing else.
func TestFindAndPlaceOfNil(t *testing.T) {
	var s *fold.State
	for _, x := range []uint64{0, 1, 1 << 63, top} {
		finds(t, "nil", s, x, 0, 0, 0, api.ErrArg)
		places(t, "nil", s, 0, 0, x, 0, api.ErrArg)
		places(t, "nil", s, -1, 9, x, 0, api.ErrArg)
	}
}

// P11.3: Find where there is nothing: ErrLater of all positions; of a State of shards without records, too.
func TestFindInNothing(t *testing.T) {
	for _, l := range [][]conf.Cmd{nil, {addOf(0, 4)}, {addOf(0, 4), cutOf(), cutOf(rowOf(0)), trimOf(0)}, {addOf(0, 1), sealOf(0)}} {
		s := applied(t, l...)
		for _, x := range []uint64{0, 1, 2, 1 << 63, top} {
			finds(t, "nothing", s, x, 0, 0, 0, api.ErrLater)
		}
	}
}

// P11.3: Find around Low and Len, by what was given up.
func TestFindAroundLowAndLen(t *testing.T) {
	for low := range uint64(8) {
		s := applied(t, addOf(2, 2), addOf(6, 1), cutOf(rowOf(2, 2, 1)), cutOf(rowOf(2, 2, 2), rowOf(6, 3)), trimOf(low))
		for pos, want := range []struct {
			shard, seg int
			off        uint64
		}{{2, 0, 0}, {2, 0, 1}, {2, 1, 0}, {2, 1, 1}, {6, 0, 0}, {6, 0, 1}, {6, 0, 2}} {
			if uint64(pos) < low {
				finds(t, "given up", s, uint64(pos), 0, 0, 0, api.ErrTrimmed)
			} else {
				finds(t, "found", s, uint64(pos), want.shard, want.seg, want.off, api.OK)
			}
			places(t, "its place", s, want.shard, want.seg, want.off, uint64(pos), api.OK)
		}
		for _, pos := range []uint64{7, 8, 1 << 32, top} {
			finds(t, "later", s, pos, 0, 0, 0, api.ErrLater)
		}
	}
}

// P11.3: Find and Place at the first and the last position of very many spans, of all lengths, and between.
func TestManySpans(t *testing.T) {
	s, m := fold.New(), newModel()
	for id := range 8 {
		s.Apply(addOf(id, 1+id%4))
		m.apply(addOf(id, 1+id%4))
	}
	r := rand.New(rand.NewSource(2))
	now := map[int][]uint64{}
	for len(m.spans) < 1500 {
		var rows []conf.Row
		for id := range 8 {
			if r.Intn(2) == 0 {
				continue
			}
			l := append(make([]uint64, 0, 4), now[id]...)
			for len(l) < 1+id%4 {
				l = append(l, 0)
			}
			for i := range l {
				l[i] += uint64(r.Intn(3)) * uint64(r.Intn(1+r.Intn(20)))
			}
			for len(l) > 0 && l[len(l)-1] == 0 {
				l = l[:len(l)-1]
			}
			now[id] = l
			rows = append(rows, rowOf(id, l...))
		}
		gets(t, "many", s, cutOf(rows...), api.OK)
		m.apply(copied(cutOf(rows...)))
	}
	isLike(t, "many spans", s, m)
	gets(t, "many", s, trimOf(m.end().Uint64()/2), api.OK)
	m.apply(trimOf(m.end().Uint64() / 2))
	isLike(t, "many spans, half of them given up", s, m)
}

// P11.3: Place of a shard and of a segment that isn't there, below 0, too: ErrNone; of a record behind a segment's: ErrLater.
func TestPlaceOfWhatThereIsNot(t *testing.T) {
	s := applied(t, addOf(0, 1), addOf(3, 2), cutOf(rowOf(3, 4, 2)), addOf(5, 4), cutOf(rowOf(5, 0, 0, 1)), addOf(7, 1), sealOf(7))
	for _, x := range []struct {
		shard, seg int
		off        uint64
		e          api.Errno
	}{
		{-1, 0, 0, api.ErrNone}, {1, 0, 0, api.ErrNone}, {2, 0, 0, api.ErrNone}, {4, 0, 0, api.ErrNone}, {8, 0, 0, api.ErrNone}, {256, 0, 0, api.ErrNone}, {259, 0, 0, api.ErrNone}, {1<<32 + 3, 0, 0, api.ErrNone}, {math.MaxInt, 0, 0, api.ErrNone}, {math.MinInt, 0, 0, api.ErrNone}, {-3, 0, 0, api.ErrNone},
		{3, -1, 0, api.ErrNone}, {3, 2, 0, api.ErrNone}, {3, 3, 0, api.ErrNone}, {3, 4, 0, api.ErrNone}, {3, 256, 0, api.ErrNone}, {3, math.MaxInt, 0, api.ErrNone}, {3, math.MinInt, 0, api.ErrNone}, {0, 1, 0, api.ErrNone}, {5, 4, 0, api.ErrNone}, {7, 1, 0, api.ErrNone},
		{3, 2, top, api.ErrNone}, {3, -1, top, api.ErrNone}, {9, 9, top, api.ErrNone},
		{0, 0, 0, api.ErrLater}, {3, 0, 4, api.ErrLater}, {3, 0, 5, api.ErrLater}, {3, 0, top, api.ErrLater}, {3, 1, 2, api.ErrLater}, {3, 1, 3, api.ErrLater}, {5, 0, 0, api.ErrLater}, {5, 1, 0, api.ErrLater}, {5, 2, 1, api.ErrLater}, {5, 3, 0, api.ErrLater}, {7, 0, 0, api.ErrLater}, {7, 0, top, api.ErrLater},
	} {
		places(t, "nothing", s, x.shard, x.seg, x.off, 0, x.e)
	}
	places(t, "the first one", s, 3, 0, 0, 0, api.OK)
	places(t, "the last one", s, 3, 0, 3, 3, api.OK)
	places(t, "the first one", s, 3, 1, 0, 4, api.OK)
	places(t, "the last one", s, 3, 1, 1, 5, api.OK)
	places(t, "the one there is", s, 5, 2, 0, 6, api.OK)
}

// P11.3: Place tells a position that was given up, too, and one of a shard that is Final.
func TestPlaceOfWhatWasGivenUp(t *testing.T) {
	s := applied(t, addOf(1, 2), cutOf(rowOf(1, 2, 1)), trimOf(3), sealOf(1, rowOf(1, 2, 2)), trimOf(4))
	for pos, x := range []struct {
		seg int
		off uint64
	}{{0, 0}, {0, 1}, {1, 0}, {1, 1}} {
		places(t, "given up", s, 1, x.seg, x.off, uint64(pos), api.OK)
		finds(t, "given up", s, uint64(pos), 0, 0, 0, api.ErrTrimmed)
	}
}

// record is one, by its shard, its segment, and its place there.
type record struct {
	shard, seg int
	off        uint64
}

// allOf is the record of each position, by Find where it wasn't given up, else by Place; Place must tell the position of each of them.
func allOf(t *testing.T, what string, s *fold.State) []record {
	t.Helper()
	l := make([]record, s.Len())
	n := uint64(0)
	for _, h := range s.Shards() {
		for seg, many := range h.Lens {
			for off := range many {
				pos, e := s.Place(h.Id, seg, off)
				if e != api.OK || pos >= s.Len() {
					t.Fatalf("%s: Place of %d %d %d is %d of %d, error %d", what, h.Id, seg, off, pos, s.Len(), e)
				}
				if l[pos] != (record{}) {
					t.Fatalf("%s: %v and %d %d %d stand at %d", what, l[pos], h.Id, seg, off, pos)
				}
				l[pos] = record{h.Id, seg, off}
				n++
			}
		}
	}
	if n != s.Len() {
		t.Fatalf("%s: %d records have %d positions", what, n, s.Len())
	}
	return l
}

// isOneLog checks what follows: each position has one record, each record one position, those of a segment in order; and Find and Place are each other's.
func isOneLog(t *testing.T, what string, s *fold.State) []record {
	t.Helper()
	l := allOf(t, what, s)
	next := map[[2]int]uint64{}
	for pos, x := range l {
		at := [2]int{x.shard, x.seg}
		if x.off != next[at] {
			t.Fatalf("%s: at %d stands %v, want place %d", what, pos, x, next[at])
		}
		next[at]++
		if uint64(pos) >= s.Low() {
			finds(t, what, s, uint64(pos), x.shard, x.seg, x.off, api.OK)
		}
	}
	sum := uint64(0)
	for i, x := range s.Spans() {
		if x.Pos != sum || x.Many == 0 {
			t.Fatalf("%s: span %d is %v, want it at %d", what, i, x, sum)
		}
		sum += x.Many
	}
	return l
}

// some is a command out of all kinds, of few shards, lengths and askers, which goes often.
func some(r *rand.Rand, m *model) conf.Cmd {
	var c conf.Cmd
	switch r.Intn(12) {
	case 0:
		return conf.Cmd{}
	case 1, 2:
		c = addOf(r.Intn(8), 1+r.Intn(4))
	case 3:
		c = sealOf(r.Intn(8))
		if r.Intn(2) == 0 {
			c.Rows = []conf.Row{someRow(r, m, c.Shard)}
		}
	case 4, 5:
		c = trimOf(uint64(r.Intn(2 + int(m.end().Uint64()))))
	default:
		return cutOf(someRows(r, m)...)
	}
	if r.Intn(3) > 0 {
		c = by(uint64(r.Intn(4)), uint64(r.Intn(40)), c)
	}
	return c
}

// someRow is a row of a shard which mostly has a few records more.
func someRow(r *rand.Rand, m *model, id int) conf.Row {
	l := make([]uint64, 4)
	segs := 1 + r.Intn(4)
	if h := m.shard(id); h != nil {
		copy(l, h.Lens)
		segs = h.Segs
	}
	for i := range segs {
		l[i] += uint64(r.Intn(4)) / 2
	}
	if r.Intn(12) == 0 {
		l[r.Intn(4)] = uint64(r.Intn(4))
	}
	for len(l) > 0 && l[len(l)-1] == 0 {
		l = l[:len(l)-1]
	}
	return rowOf(id, l...)
}

// someRows are rows of some of the shards that there are, and now and then of one that there isn't.
func someRows(r *rand.Rand, m *model) []conf.Row {
	var l []conf.Row
	for id := range 8 {
		h := m.shard(id)
		open := h != nil && !h.Final
		if open && r.Intn(2) == 0 || !open && r.Intn(30) == 0 {
			l = append(l, someRow(r, m, id))
		}
	}
	return l
}

// P11.4: what has a position keeps it, whatever is applied: step by step, of commands that go and of such that don't; and all is as the document's words say (P11.1 to P11.3).
func TestWhatHasAPositionKeepsIt(t *testing.T) {
	kinds := map[api.Errno]int{}
	for seed := range int64(120) {
		r := rand.New(rand.NewSource(seed))
		s, m := fold.New(), newModel()
		var was []record
		for i := range 60 {
			c := some(r, m)
			what := fmt.Sprintf("seed %d, step %d, %v", seed, i, c)
			low := s.Low()
			e, want := s.Apply(copied(c)), m.apply(c)
			if e != want {
				t.Fatalf("%s: error %d, want %d", what, e, want)
			}
			kinds[e]++
			isLike(t, what, s, m)
			now := isOneLog(t, what, s)
			if len(now) < len(was) || !slices.Equal(now[:len(was)], was) {
				t.Fatalf("%s: positions were %v, and are %v", what, was, now)
			}
			if s.Low() < low {
				t.Fatalf("%s: Low fell from %d to %d", what, low, s.Low())
			}
			was = now
		}
	}
	for _, e := range []api.Errno{api.OK, api.ErrNone, api.ErrTwice, api.ErrRange, api.ErrSealed, api.ErrLater} {
		if kinds[e] < 20 {
			t.Errorf("error %d was told %d times only: the test itself is weak", e, kinds[e])
		}
	}
}

// walk applies all rows of so many commands out of a few, and checks what comes of each.
func walk(t *testing.T, few []conf.Cmd, ahead []conf.Cmd, many int) int {
	t.Helper()
	s, m := fold.New(), newModel()
	for i, c := range ahead {
		if e, want := s.Apply(copied(c)), m.apply(c); e != want {
			t.Fatalf("%v: error %d of the last one, want %d", ahead[:i+1], e, want)
		}
	}
	isLike(t, fmt.Sprint(ahead), s, m)
	isOneLog(t, fmt.Sprint(ahead), s)
	n := 1
	if many > 0 {
		for _, c := range few {
			n += walk(t, few, append(ahead[:len(ahead):len(ahead)], c), many-1)
		}
	}
	return n
}

// P11.4: all rows of up to four commands, out of a few of all kinds, that nobody asked for.
func TestAllRowsOfCommands(t *testing.T) {
	few := []conf.Cmd{
		addOf(1, 2), addOf(0, 1),
		cutOf(rowOf(1, 1)), cutOf(rowOf(1, 0, 2)), cutOf(rowOf(1, 2, 2)), cutOf(rowOf(0, 2), rowOf(1, 1, 1)), cutOf(rowOf(0, 1)),
		sealOf(1), sealOf(1, rowOf(1, 2, 1)),
		trimOf(1), trimOf(3),
	}
	if n := walk(t, few, nil, 4); n != 1+11+121+1331+14641 {
		t.Errorf("%d rows", n)
	}
	if n := walk(t, few[1:], few[:1], 3); n != 1+10+100+1000 {
		t.Errorf("%d rows", n)
	}
}

// P11.1: all rows of up to four commands, out of a few that somebody asked for, with numbers that are alike.
func TestAllRowsOfAskedCommands(t *testing.T) {
	few := []conf.Cmd{
		by(1, 0, addOf(2, 1)), by(0, 1, addOf(2, 1)), by(1, 1, addOf(3, 1)),
		cutOf(rowOf(2, 1)), cutOf(rowOf(2, 1), rowOf(3, 1)),
		by(1, 1, trimOf(1)), by(1, 0, trimOf(2)), trimOf(1),
		by(0, 1, sealOf(2)), by(1, 1, sealOf(3, rowOf(3, 2))), by(1, 1, conf.Cmd{Op: conf.Add, Shard: 2}),
	}
	if n := walk(t, few, nil, 4); n != 1+11+121+1331+14641 {
		t.Errorf("%d rows", n)
	}
}

// P11.1: the same commands have the same answers, at each State anew.
func TestSameCommandsSameAnswers(t *testing.T) {
	r := rand.New(rand.NewSource(3))
	m := newModel()
	var l []conf.Cmd
	for range 200 {
		c := some(r, m)
		m.apply(c)
		l = append(l, c)
	}
	var first look
	for i := range 20 {
		s := fold.New()
		for _, c := range l {
			s.Apply(c)
		}
		if i == 0 {
			first = lookAt(s)
		}
		still(t, "once more", s, first)
	}
}

// P11.1: a State that New didn't make is of no commands, too: no call of it panics.
func TestStateOfNothing(t *testing.T) {
	isLike(t, "a State of nothing", &fold.State{}, newModel())
	for _, first := range append(full(), addOf(0, 1), trimOf(0), trimOf(1), by(1, 1, trimOf(1)), sealOf(0), cutOf(rowOf(0, 1)), cutOf(), conf.Cmd{Op: 9}) {
		s, m := &fold.State{}, newModel()
		for _, c := range append([]conf.Cmd{first}, full()...) {
			e, want := s.Apply(c), m.apply(c)
			if e != want {
				t.Fatalf("%v, then %v: error %d, want %d", first, c, e, want)
			}
			isLike(t, fmt.Sprint(first, ", then ", c), s, m)
		}
	}
}
