package msg_test

import (
	"bytes"
	"fmt"
	"hash/crc32"
	"math"
	"reflect"
	"slices"
	"strings"
	"testing"

	"notcher/api"
	"notcher/frame"
	"notcher/msg"
)

// worded are the fields of the kinds, in the document's own words: kind 1 is the first one.
const worded = "Append: Shard, Seg, Client, Seq, Body. Appended: Shard, Seg, Client, Seq, Pos, Code. Store: Shard, Seg, Client, Seq, Pos, Body. Stored: Shard, Seg, Pos. Need: Shard, Seg, Pos. Report: Shard, Seg, Vec. Prepare: Ballot, Slot. Promise: Ballot, Slot, Body. Accept: Ballot, Slot, Body. Accepted: Ballot, Slot. Nack: Ballot. Learn: Slot, Body. Catch: Slot. Read: Client, Seq, Pos. Value: Shard, Seg, Client, Seq, Pos, Code, Body. Admin: Shard, Seg, Client, Seq, Pos, Code. Done: Client, Seq, Pos, Code. Beat: Ballot, Slot."

// ordered are all fields, in the order in which the struct has them.
const ordered = "Ballot, Slot, Shard, Seg, Client, Seq, Pos, Code, Vec, Body"

const big = math.MaxUint64

func allFields() []string { return strings.Split(ordered, ", ") }

// fieldsOf are the fields of a kind by the document's words: nothing of one that there isn't.
func fieldsOf(kind int) []string {
	l := strings.Split(strings.TrimSuffix(worded, "."), ". ")
	if kind < 1 || kind > len(l) {
		return nil
	}
	_, names, _ := strings.Cut(l[kind-1], ": ")
	return strings.Split(names, ", ")
}

// topOf is the greatest number of a field, or how many items it may have.
func topOf(name string) uint64 {
	switch name {
	case "Shard":
		return 7
	case "Seg":
		return 3
	case "Code":
		return 255
	case "Vec":
		return 256
	case "Body":
		return 32768
	}
	return big
}

// fieldOf is a field by its name.
func fieldOf(m *msg.Msg, name string) reflect.Value {
	return reflect.ValueOf(m).Elem().FieldByName(name)
}

// with is a message, one field of it changed to a number, or to so many items.
func with(m msg.Msg, name string, x uint64) msg.Msg {
	switch f := fieldOf(&m, name); f.Kind() {
	case reflect.Uint64:
		f.SetUint(x)
	case reflect.Int:
		f.SetInt(int64(x))
	default:
		if name == "Vec" {
			m.Vec = someNumbers(int(x))
		} else {
			m.Body = someBytes(int(x))
		}
	}
	return m
}

// someBytes are n bytes that look like chance, the same ones each time.
func someBytes(n int) []byte {
	b := make([]byte, n)
	x := uint32(n) + 1
	for i := range b {
		x = x*1664525 + 1013904223
		b[i] = byte(x >> 24)
	}
	return b
}

// someNumbers are n numbers of all widths.
func someNumbers(n int) []uint64 {
	l := make([]uint64, n)
	for i := range l {
		l[i] = big >> (i * 7 % 65)
	}
	return l
}

// full is a message of a kind with all of its fields, none of them 0 or the same as another one.
func full(kind int) msg.Msg {
	m := msg.Msg{Kind: kind}
	for _, name := range fieldsOf(kind) {
		switch name {
		case "Shard":
			m.Shard = 6
		case "Seg":
			m.Seg = 2
		case "Code":
			m.Code = 34
		case "Vec":
			m.Vec = []uint64{4, 0, 70000}
		case "Body":
			m.Body = []byte("notcher")
		default:
			m = with(m, name, 300+uint64(len(name))<<8+uint64(name[0])<<16)
		}
	}
	return m
}

// tops is a message of a kind with the most of each of its fields.
func tops(kind int) msg.Msg {
	m := msg.Msg{Kind: kind}
	for _, name := range fieldsOf(kind) {
		m = with(m, name, topOf(name))
	}
	return m
}

// good are messages of all kinds that may be: with none of the fields, with one, and with all of them, up to the most.
func good() []msg.Msg {
	var l []msg.Msg
	for kind := 1; kind <= 18; kind++ {
		zero := msg.Msg{Kind: kind}
		empty := msg.Msg{Kind: kind, Vec: []uint64{}, Body: []byte{}}
		l = append(l, zero, empty, full(kind), tops(kind))
		for _, name := range fieldsOf(kind) {
			for _, x := range []uint64{0, 1, 2, 3, 7, 127, 128, 255, 256, 257, 1 << 15, 1<<31 - 1, 1 << 32, 1 << 56, 1<<63 - 1, 1 << 63, big} {
				if x <= topOf(name) {
					l = append(l, with(zero, name, x), with(full(kind), name, x), with(tops(kind), name, x))
				}
			}
		}
	}
	return l
}

// number is a number's bytes, reckoned by division, another way than package nums goes.
func number(x uint64) []byte {
	var low []byte
	for ; x > 0; x /= 256 {
		low = append(low, byte(x%256))
	}
	slices.Reverse(low)
	return append([]byte{byte(len(low))}, low...)
}

// framed is the frame of a kind and of rows of bytes, which are joined, its sum by the library.
func framed(kind byte, rows ...[]byte) []byte {
	body := slices.Concat(rows...)
	b := slices.Concat(number(uint64(len(body))), []byte{kind}, body)
	x := crc32.Checksum(b, crc32.MakeTable(crc32.Castagnoli))
	return append(b, byte(x>>24), byte(x>>16), byte(x>>8), byte(x))
}

// fieldBytes are a field's bytes by the document's words.
func fieldBytes(m msg.Msg, name string) []byte {
	switch name {
	case "Vec":
		b := number(uint64(len(m.Vec)))
		for _, x := range m.Vec {
			b = append(b, number(x)...)
		}
		return b
	case "Body":
		return append(number(uint64(len(m.Body))), m.Body...)
	}
	f := fieldOf(&m, name)
	if f.CanInt() {
		return number(uint64(f.Int()))
	}
	return number(f.Uint())
}

// allBytes are the bytes of all fields of a message, a row each.
func allBytes(m msg.Msg) [][]byte {
	var l [][]byte
	for _, name := range fieldsOf(m.Kind) {
		l = append(l, fieldBytes(m, name))
	}
	return l
}

// wantPut is a message's bytes by the document's words.
func wantPut(m msg.Msg) []byte { return framed(byte(m.Kind), allBytes(m)...) }

// wantNumber is the number at the front of bytes, and what is left behind it.
func wantNumber(b []byte) (uint64, []byte, api.Errno) {
	if len(b) == 0 {
		return 0, nil, api.ErrShort
	}
	if b[0] > 8 {
		return 0, nil, api.ErrForm
	}
	size := 1 + int(b[0])
	if len(b) < size {
		return 0, nil, api.ErrShort
	}
	n := uint64(0)
	for i, c := range b[1:size] {
		if i == 0 && c == 0 {
			return 0, nil, api.ErrForm
		}
		n = n*256 + uint64(c)
	}
	return n, b[size:], api.OK
}

// wantField reads a field into a message by the document's words, and tells what is left.
func wantField(m *msg.Msg, name string, b []byte) ([]byte, api.Errno) {
	x, left, e := wantNumber(b)
	switch {
	case e != api.OK:
		return nil, e
	case x > topOf(name) && (name == "Vec" || name == "Body"):
		return nil, api.ErrBig
	case x > topOf(name):
		return nil, api.ErrForm
	case name == "Body":
		if x > uint64(len(left)) {
			return nil, api.ErrShort
		}
		m.Body = left[:x]
		return left[x:], api.OK
	case name == "Vec":
		for range x {
			var y uint64
			if y, left, e = wantNumber(left); e != api.OK {
				return nil, e
			}
			m.Vec = append(m.Vec, y)
		}
		return left, api.OK
	}
	*m = with(*m, name, x)
	return left, api.OK
}

// wantFields is what Get must answer of a right frame of a kind and these bytes.
func wantFields(kind byte, b []byte) (msg.Msg, api.Errno) {
	m := msg.Msg{Kind: int(kind)}
	if fieldsOf(m.Kind) == nil {
		return msg.Msg{}, api.ErrForm
	}
	for _, name := range fieldsOf(m.Kind) {
		var e api.Errno
		if b, e = wantField(&m, name, b); e != api.OK {
			return msg.Msg{}, e
		}
	}
	if len(b) > 0 {
		return msg.Msg{}, api.ErrLeft
	}
	return m, api.OK
}

// text is of a message what can be read in a line.
func text(m msg.Msg) string {
	vec, body := m.Vec, m.Body
	m.Vec, m.Body = vec[:min(len(vec), 5)], body[:min(len(body), 20)]
	return fmt.Sprintf("%+v with %d and %d", m, len(vec), len(body))
}

// short is of bytes what can be read in a line.
func short(b []byte) []byte { return b[:min(len(b), 40)] }

func same(t *testing.T, what string, got, want []byte) {
	t.Helper()
	if !bytes.Equal(got, want) {
		t.Errorf("%s: got %d bytes, % d, want %d, % d", what, len(got), short(got), len(want), short(want))
	}
}

func isErr(t *testing.T, what string, got, want api.Errno) {
	t.Helper()
	if got != want {
		t.Errorf("%s: got error %d, want %d", what, got, want)
	}
}

func isMsg(t *testing.T, what string, got, want msg.Msg) {
	t.Helper()
	vec, body := slices.Equal(got.Vec, want.Vec), bytes.Equal(got.Body, want.Body)
	g, w := got, want
	g.Vec, g.Body, w.Vec, w.Body = nil, nil, nil, nil
	if !vec || !body || !reflect.DeepEqual(g, w) {
		t.Errorf("%s: got %s, want %s", what, text(got), text(want))
	}
}

// put is Put, of a message of which it must go.
func put(t *testing.T, m msg.Msg) []byte {
	t.Helper()
	b, e := msg.Put(m)
	isErr(t, "Put of "+text(m), e, api.OK)
	return b
}

// gets asks Get, and says what it must answer.
func gets(t *testing.T, what string, b []byte, want msg.Msg, e api.Errno) {
	t.Helper()
	m, err := msg.Get(b)
	isErr(t, what, err, e)
	isMsg(t, what, m, want)
}

// getRefuses says that Get must answer an error, and nothing beside it.
func getRefuses(t *testing.T, what string, b []byte, e api.Errno) {
	t.Helper()
	gets(t, what, b, msg.Msg{}, e)
}

// taken says that Check and Put must take a message.
func taken(t *testing.T, m msg.Msg) {
	t.Helper()
	isErr(t, "Check of "+text(m), msg.Check(m), api.OK)
	same(t, "Put of "+text(m), put(t, m), wantPut(m))
}

// refused says that Check and Put must refuse a message, and that nothing is put.
func refused(t *testing.T, m msg.Msg) {
	t.Helper()
	isErr(t, "Check of "+text(m), msg.Check(m), api.ErrArg)
	b, e := msg.Put(m)
	isErr(t, "Put of "+text(m), e, api.ErrArg)
	same(t, "Put of "+text(m), b, nil)
}

// The kinds' numbers are those of the document.
func TestKinds(t *testing.T) {
	got := []int{msg.Append, msg.Appended, msg.Store, msg.Stored, msg.Need, msg.Report, msg.Prepare, msg.Promise, msg.Accept, msg.Accepted, msg.Nack, msg.Learn, msg.Catch, msg.Read, msg.Value, msg.Admin, msg.Done, msg.Beat}
	for i, kind := range got {
		if kind != i+1 {
			t.Errorf("got kind %d, want %d", kind, i+1)
		}
	}
	if len(got) != 18 || fieldsOf(18) == nil || fieldsOf(19) != nil {
		t.Errorf("got %d kinds, want 18", len(got))
	}
}

// P4.1: each kind goes with none of its fields, with one, with all of them, and with the most of each.
func TestCheckOfWhatMayBe(t *testing.T) {
	for _, m := range good() {
		isErr(t, "Check of "+text(m), msg.Check(m), api.OK)
	}
}

// P4.1: a kind that there isn't, though its lowest byte may be that of one that there is.
func TestCheckOfOtherKinds(t *testing.T) {
	for _, kind := range []int{0, -1, -2, -18, 19, 20, 32, 127, 128, 255, 256, 257, 257 + 17, 65537, 1<<32 + 1, -255, math.MinInt, math.MinInt + 1, math.MaxInt} {
		refused(t, msg.Msg{Kind: kind})
		m := full(msg.Value)
		m.Kind = kind
		refused(t, m)
	}
	refused(t, msg.Msg{})
	taken(t, msg.Msg{Kind: 1})
	taken(t, msg.Msg{Kind: 18})
}

// P4.1: just one field that isn't the kind's own is one too many, be there none of its own or all of them.
func TestCheckOfFieldsThatAreNotItsOwn(t *testing.T) {
	others := 0
	for kind := 1; kind <= 18; kind++ {
		for _, name := range allFields() {
			if slices.Contains(fieldsOf(kind), name) {
				continue
			}
			others++
			for _, m := range []msg.Msg{{Kind: kind}, full(kind), tops(kind)} {
				for _, x := range []uint64{1, topOf(name)} {
					refused(t, with(m, name, x))
				}
				if name == "Shard" || name == "Seg" || name == "Code" {
					for _, x := range []int64{-1, 2, 3, 256, math.MinInt64, math.MaxInt64} {
						refused(t, with(m, name, uint64(x)))
					}
				}
			}
		}
	}
	if others != 118 {
		t.Errorf("got %d fields that aren't a kind's own, want 118", others)
	}
}

// P4.1: a list of another kind goes without items, nil or empty, and whatever room it has.
func TestCheckOfEmptyLists(t *testing.T) {
	for kind := 1; kind <= 18; kind++ {
		for _, vec := range [][]uint64{nil, {}, make([]uint64, 0, 9), make([]uint64, 9)[4:4]} {
			for _, body := range [][]byte{nil, {}, make([]byte, 0, 9), make([]byte, 9)[4:4]} {
				m := msg.Msg{Kind: kind, Vec: vec, Body: body}
				taken(t, m)
				same(t, "Put of "+text(m), put(t, m), wantPut(msg.Msg{Kind: kind}))
			}
		}
		if !slices.Contains(fieldsOf(kind), "Vec") {
			refused(t, msg.Msg{Kind: kind, Vec: []uint64{0}})
		}
		if !slices.Contains(fieldsOf(kind), "Body") {
			refused(t, msg.Msg{Kind: kind, Body: []byte{0}})
		}
	}
}

// P4.1: Shard is 0 to 7, Seg 0 to 3, Code 0 to 255, in each kind that has them.
func TestCheckOfNumbersAtTheirEdges(t *testing.T) {
	for kind := 1; kind <= 18; kind++ {
		for _, name := range fieldsOf(kind) {
			if name != "Shard" && name != "Seg" && name != "Code" {
				continue
			}
			top := int64(topOf(name))
			for _, m := range []msg.Msg{{Kind: kind}, full(kind), tops(kind)} {
				for _, x := range []int64{0, 1, top - 1, top} {
					taken(t, with(m, name, uint64(x)))
				}
				for _, x := range []int64{-1, -2, -8, -256, top + 1, top + 2, 2*top + 2, 256, 257, 65536, 1 << 32, 1<<32 + 1, math.MinInt64, math.MinInt64 + 1, math.MaxInt64} {
					refused(t, with(m, name, uint64(x)))
				}
			}
		}
	}
}

// P4.1: Vec has at most 256 numbers, and Body at most 32768 bytes, in each kind that has them.
func TestCheckOfListsAtTheirEdges(t *testing.T) {
	for kind := 1; kind <= 18; kind++ {
		for _, name := range fieldsOf(kind) {
			if name != "Vec" && name != "Body" {
				continue
			}
			top := topOf(name)
			for _, m := range []msg.Msg{{Kind: kind}, full(kind), tops(kind)} {
				for _, n := range []uint64{0, 1, top - 1, top} {
					taken(t, with(m, name, n))
				}
				for _, n := range []uint64{top + 1, top + 2, 65535, 65536, 1 << 17} {
					refused(t, with(m, name, n))
				}
			}
		}
	}
}

// P4.1: what is wrong in two ways is wrong.
func TestCheckOfTwoFaults(t *testing.T) {
	for kind := 1; kind <= 18; kind++ {
		bad := tops(kind)
		for _, name := range allFields() {
			if topOf(name) < big {
				bad = with(bad, name, topOf(name)+1)
			} else if !slices.Contains(fieldsOf(kind), name) {
				bad = with(bad, name, 1)
			}
		}
		refused(t, bad)
		bad.Kind = 0
		refused(t, bad)
	}
}

// example is a message, and the bytes of its fields.
type example struct {
	m    msg.Msg
	want []byte
}

// known are messages of all kinds, their bytes written out.
func known() map[int]example {
	return map[int]example{
		1:  {msg.Msg{Kind: 1, Shard: 1, Seg: 2, Client: 3, Seq: 300, Body: []byte("hi")}, []byte{1, 1, 1, 2, 1, 3, 2, 1, 44, 1, 2, 104, 105}},
		2:  {msg.Msg{Kind: 2, Shard: 1, Seg: 2, Client: 3, Seq: 4, Pos: 5, Code: 255}, []byte{1, 1, 1, 2, 1, 3, 1, 4, 1, 5, 1, 255}},
		3:  {msg.Msg{Kind: 3, Shard: 1, Seg: 2, Client: 3, Seq: 4, Pos: 5, Body: []byte("hi")}, []byte{1, 1, 1, 2, 1, 3, 1, 4, 1, 5, 1, 2, 104, 105}},
		4:  {msg.Msg{Kind: 4, Shard: 7, Seg: 3, Pos: 256}, []byte{1, 7, 1, 3, 2, 1, 0}},
		5:  {msg.Msg{Kind: 5, Shard: 7, Seg: 3, Pos: 257}, []byte{1, 7, 1, 3, 2, 1, 1}},
		6:  {msg.Msg{Kind: 6, Shard: 7, Seg: 3, Vec: []uint64{1, 300, 0}}, []byte{1, 7, 1, 3, 1, 3, 1, 1, 2, 1, 44, 0}},
		7:  {msg.Msg{Kind: 7, Ballot: 65, Slot: 9}, []byte{1, 65, 1, 9}},
		8:  {msg.Msg{Kind: 8, Ballot: 65, Slot: 9, Body: []byte("v")}, []byte{1, 65, 1, 9, 1, 1, 118}},
		9:  {msg.Msg{Kind: 9, Ballot: 66, Slot: 9, Body: []byte("v")}, []byte{1, 66, 1, 9, 1, 1, 118}},
		10: {msg.Msg{Kind: 10, Ballot: 66, Slot: 10}, []byte{1, 66, 1, 10}},
		11: {msg.Msg{Kind: 11, Ballot: 1 << 63}, []byte{8, 128, 0, 0, 0, 0, 0, 0, 0}},
		12: {msg.Msg{Kind: 12, Slot: 7, Body: []byte{0}}, []byte{1, 7, 1, 1, 0}},
		13: {msg.Msg{Kind: 13, Slot: 5}, []byte{1, 5}},
		14: {msg.Msg{Kind: 14, Client: 3, Seq: 4, Pos: 5}, []byte{1, 3, 1, 4, 1, 5}},
		15: {msg.Msg{Kind: 15, Shard: 1, Seg: 2, Client: 3, Seq: 4, Pos: 5, Code: 6, Body: []byte("hi")}, []byte{1, 1, 1, 2, 1, 3, 1, 4, 1, 5, 1, 6, 1, 2, 104, 105}},
		16: {msg.Msg{Kind: 16, Shard: 1, Seg: 2, Client: 3, Seq: 4, Pos: 5, Code: 6}, []byte{1, 1, 1, 2, 1, 3, 1, 4, 1, 5, 1, 6}},
		17: {msg.Msg{Kind: 17, Client: 3, Seq: 4, Pos: 5, Code: 6}, []byte{1, 3, 1, 4, 1, 5, 1, 6}},
		18: {msg.Msg{Kind: 18, Ballot: 65, Slot: 9}, []byte{1, 65, 1, 9}},
	}
}

// P4.2: a message of each kind, whose fields' bytes are written out; the document's example is one of them.
func TestPutOfWhatIsKnown(t *testing.T) {
	for kind, c := range known() {
		if kind != c.m.Kind {
			t.Fatalf("kind %d stands at %d", c.m.Kind, kind)
		}
		b := put(t, c.m)
		same(t, "Put of "+text(c.m), b, framed(byte(kind), c.want))
		f, n, e := frame.Get(b)
		isErr(t, "the frame", e, api.OK)
		if int(f.Kind) != kind || n != len(b) {
			t.Errorf("got kind %d and %d bytes, want %d and %d", f.Kind, n, kind, len(b))
		}
		same(t, "the frame's bytes", f.Body, c.want)
	}
	b := put(t, msg.Msg{Kind: msg.Catch, Slot: 5})
	if len(b) != 9 {
		t.Errorf("the example: got %d bytes, want 9", len(b))
	}
	same(t, "the example", b[:5], []byte{1, 2, 13, 1, 5})
}

// P4.2: of a kind with none of its fields but 0 each field is a byte 0.
func TestPutOfNoFields(t *testing.T) {
	for kind := 1; kind <= 18; kind++ {
		m := msg.Msg{Kind: kind}
		same(t, "Put of "+text(m), put(t, m), framed(byte(kind), make([]byte, len(fieldsOf(kind)))))
	}
}

// P4.2: fields in their order, numbers as nums puts them.
func TestPutIsAsWorded(t *testing.T) {
	for _, m := range good() {
		same(t, "Put of "+text(m), put(t, m), wantPut(m))
	}
	for _, x := range []uint64{0, 1, 255, 256, 65535, 65536, 1<<32 - 1, 1 << 32, 1<<56 - 1, 1 << 56, 1 << 63, big} {
		same(t, "Put of a Nack", put(t, msg.Msg{Kind: msg.Nack, Ballot: x}), framed(11, number(x)))
		m := msg.Msg{Kind: msg.Report, Vec: []uint64{x, 7, x}}
		same(t, "Put of a Report", put(t, m), framed(6, []byte{0, 0, 1, 3}, number(x), []byte{1, 7}, number(x)))
	}
}

// P4.2: Check's error, and nothing beside it.
func TestPutOfWhatMayNotBe(t *testing.T) {
	for _, m := range []msg.Msg{
		{},
		{Kind: 19, Ballot: 1},
		{Kind: msg.Nack, Slot: 1},
		{Kind: msg.Need, Shard: 8},
		{Kind: msg.Need, Seg: -1},
		{Kind: msg.Done, Code: 256},
		{Kind: msg.Report, Vec: make([]uint64, 257)},
		{Kind: msg.Learn, Body: make([]byte, 32769)},
		{Kind: msg.Learn, Body: make([]byte, 1<<20)},
	} {
		refused(t, m)
	}
}

// P4.2: what is put is in new memory, and what was handed in stays as it is, with the room behind it.
func TestPutIsInNewMemory(t *testing.T) {
	for kind := 1; kind <= 18; kind++ {
		m := full(kind)
		vec, body := slices.Concat(m.Vec, []uint64{8, 9}), slices.Concat(m.Body, []byte{8, 9})
		m.Vec, m.Body = vec[:len(m.Vec)], body[:len(m.Body)]
		a, b := put(t, m), put(t, m)
		for i := range a {
			a[i] ^= 255
		}
		_ = append(a, 77, 77, 77, 77)
		isMsg(t, "what was handed in", m, full(kind))
		if vec[len(vec)-2] != 8 || vec[len(vec)-1] != 9 || body[len(body)-2] != 8 || body[len(body)-1] != 9 {
			t.Errorf("kind %d: the room was written to", kind)
		}
		for i := range m.Body {
			m.Body[i] ^= 255
		}
		same(t, "another answer", b, wantPut(full(kind)))
	}
}

// P4.3: messages of all kinds are got of bytes that are written out.
func TestGetOfWhatIsKnown(t *testing.T) {
	for kind, c := range known() {
		gets(t, "Get of "+text(c.m), framed(byte(kind), c.want), c.m, api.OK)
	}
	for _, m := range good() {
		gets(t, "Get of "+text(m), wantPut(m), m, api.OK)
	}
}

// P4.3: what frame.Get refuses is told as it tells it, in each of its ways.
func TestGetOfNoFrame(t *testing.T) {
	for _, c := range []struct {
		name string
		b    []byte
		err  api.Errno
	}{
		{"nil", nil, api.ErrShort},
		{"none", []byte{}, api.ErrShort},
		{"a number without its bytes", []byte{2, 1}, api.ErrShort},
		{"none, with room", make([]byte, 0, 12), api.ErrShort},
		{"a number of nine bytes", []byte{9, 1, 2, 3, 4, 5, 6, 7, 8, 9, 10}, api.ErrForm},
		{"a number with a 0 in front", []byte{2, 0, 2, 13, 1, 5, 1, 2, 3, 4}, api.ErrForm},
		{"65536 bytes", slices.Concat([]byte{3, 1, 0, 0, 13}, make([]byte, 65540)), api.ErrBig},
		{"65536 bytes, and none there", []byte{3, 1, 0, 0}, api.ErrBig},
		{"no kind", []byte{0}, api.ErrShort},
		{"no sum", []byte{1, 2, 13, 1, 5}, api.ErrShort},
		{"a wrong sum", []byte{1, 2, 13, 1, 5, 1, 2, 3, 4}, api.ErrSum},
		{"noughts", make([]byte, 20), api.ErrSum},
	} {
		getRefuses(t, c.name, c.b, c.err)
	}
	for kind := 1; kind <= 18; kind++ {
		b := wantPut(full(kind))
		for n := range b {
			getRefuses(t, "cut", b[:n], api.ErrShort)
		}
		for i := range b {
			for _, x := range []byte{1, 2, 4, 8, 16, 32, 64, 128, 255} {
				spoiled := bytes.Clone(b)
				spoiled[i] ^= x
				_, _, e := frame.Get(spoiled)
				if e == api.OK {
					t.Fatalf("byte %d by %d: the test itself is wrong", i, x)
				}
				getRefuses(t, "spoiled", spoiled, e)
			}
		}
	}
}

// P4.3: a frame's error is told ahead of a kind that there isn't, and of fields that are wrong.
func TestGetOfNoFrameFirst(t *testing.T) {
	for _, kind := range []byte{0, 5, 13, 19, 255} {
		for _, body := range [][]byte{nil, {9}, {1, 8, 1, 4}, {1, 0}} {
			b := framed(kind, body)
			getRefuses(t, "cut", b[:len(b)-1], api.ErrShort)
			b[len(b)-1] ^= 1
			getRefuses(t, "a wrong sum", b, api.ErrSum)
			getRefuses(t, "a wrong sum, bytes behind", append(b, 1), api.ErrSum)
			b[0] = 255
			getRefuses(t, "no number", b, api.ErrForm)
		}
	}
}

// P4.3: nothing may stand behind the frame, not even another message; that is told ahead of the fields' errors.
func TestGetOfBytesBehind(t *testing.T) {
	tails := [][]byte{{0}, {255}, {0, 0, 0, 0, 0, 0, 0}, wantPut(msg.Msg{Kind: msg.Catch, Slot: 5}), someBytes(400)}
	for kind := 0; kind < 20; kind++ {
		bodies := [][]byte{nil, {0}, {0, 0, 0}, {1, 8, 3, 1, 0, 0}, {1, 7, 1, 3, 2, 255, 255}, slices.Concat(allBytes(full(kind))...), slices.Concat(allBytes(tops(kind))...)}
		for _, body := range bodies {
			for _, tail := range tails {
				getRefuses(t, "bytes behind", slices.Concat(framed(byte(kind), body), tail), api.ErrForm)
			}
		}
	}
	b := wantPut(msg.Msg{Kind: msg.Catch, Slot: 5})
	gets(t, "with room behind", append(b, 1, 2, 3)[:len(b)], msg.Msg{Kind: msg.Catch, Slot: 5}, api.OK)
}

// P4.3: a frame of a kind that there isn't, whatever its bytes are.
func TestGetOfOtherKinds(t *testing.T) {
	for kind := range 256 {
		for _, body := range [][]byte{nil, {0}, {0, 0}, {0, 0, 0}, {9}, {1, 0}, {1, 5}, {3}, someBytes(300), make([]byte, 65535)} {
			m, e := wantFields(byte(kind), body)
			if (kind == 0 || kind > 18) && e != api.ErrForm {
				t.Fatalf("kind %d: the test itself has error %d", kind, e)
			}
			gets(t, fmt.Sprint("kind ", kind), framed(byte(kind), body), m, e)
		}
	}
}

// P4.3: a message that is cut behind each of its bytes, in a right frame, and one with a byte more.
func TestGetOfFieldsCut(t *testing.T) {
	for kind := 1; kind <= 18; kind++ {
		for _, m := range []msg.Msg{{Kind: kind}, full(kind), known()[kind].m} {
			b := slices.Concat(allBytes(m)...)
			for n := range b {
				getRefuses(t, fmt.Sprint("cut: ", text(m), " at ", n), framed(byte(kind), b[:n]), api.ErrShort)
			}
			for more := range 256 {
				getRefuses(t, "a byte more: "+text(m), framed(byte(kind), b, []byte{byte(more)}), api.ErrLeft)
			}
			getRefuses(t, "many more: "+text(m), framed(byte(kind), b, someBytes(1000)), api.ErrLeft)
			getRefuses(t, "once more: "+text(m), framed(byte(kind), b, b), api.ErrLeft)
		}
		b := slices.Concat(allBytes(tops(kind))...)
		for n := 1; n < len(b); n += n {
			getRefuses(t, "cut, of the most", framed(byte(kind), b[:n]), api.ErrShort)
			getRefuses(t, "cut, of the most", framed(byte(kind), b[:len(b)-n]), api.ErrShort)
		}
		getRefuses(t, "a byte more, of the most", framed(byte(kind), b, []byte{0}), api.ErrLeft)
	}
}

// fault is what a field must not be, and the error of it.
type fault struct {
	name string
	b    []byte
	err  api.Errno
}

// faults are those of a field, with what may stand behind it.
func faults(name string) []fault {
	l := []fault{
		{"nine", []byte{9}, api.ErrForm},
		{"nine, all there", []byte{9, 1, 2, 3, 4, 5, 6, 7, 8, 9}, api.ErrForm},
		{"255", []byte{255}, api.ErrForm},
		{"a 0 with a byte", []byte{1, 0}, api.ErrForm},
		{"a 1 with two", []byte{2, 0, 1}, api.ErrForm},
		{"a 2 with eight", []byte{8, 0, 0, 0, 0, 0, 0, 0, 2}, api.ErrForm},
		{"eight, a 0 in front", []byte{8, 0, 1, 1, 1, 1, 1, 1, 1}, api.ErrForm},
	}
	top := topOf(name)
	if top == big {
		return l
	}
	e := api.ErrForm
	if name == "Vec" || name == "Body" {
		e = api.ErrBig
	}
	for _, x := range []uint64{top + 1, top + 2, 2*top + 2, 256 + 256*top, 65536, 1 << 32, 1<<32 + 1, 1<<63 - 1, 1 << 63, 1<<63 + 1, big - 1, big} {
		l = append(l, fault{fmt.Sprint("number ", x), number(x), e})
	}
	if name == "Vec" {
		l = append(l,
			fault{"the first number is none", []byte{1, 3, 9}, api.ErrForm},
			fault{"the last number is none", []byte{1, 3, 0, 0, 1, 0}, api.ErrForm},
			fault{"two numbers are none", []byte{1, 2, 1, 0, 255}, api.ErrForm},
			fault{"257 numbers, all there", append([]byte{2, 1, 1}, make([]byte, 257)...), api.ErrBig},
			fault{"257 numbers, the first one is none", append([]byte{2, 1, 1}, bytes.Repeat([]byte{9}, 257)...), api.ErrBig})
	}
	if name == "Body" {
		l = append(l,
			fault{"32769 bytes, all there", append([]byte{2, 128, 1}, make([]byte, 32769)...), api.ErrBig},
			fault{"40000 bytes, all there", append(number(40000), make([]byte, 40000)...), api.ErrBig})
	}
	return l
}

// P4.3: a number that is none, or above what may be, in each field of each kind, whatever stands behind: it is told as soon as it is read.
func TestGetOfAFaultInEachField(t *testing.T) {
	for kind := 1; kind <= 18; kind++ {
		for _, m := range []msg.Msg{{Kind: kind}, full(kind), tops(kind)} {
			rows := allBytes(m)
			for i, name := range fieldsOf(kind) {
				ahead, behind := slices.Concat(rows[:i]...), slices.Concat(rows[i+1:]...)
				for _, f := range faults(name) {
					what := fmt.Sprintf("%s: %s is %s", text(m), name, f.name)
					getRefuses(t, what, framed(byte(kind), ahead, f.b), f.err)
					getRefuses(t, what+", all behind", framed(byte(kind), ahead, f.b, behind), f.err)
					getRefuses(t, what+", noughts behind", framed(byte(kind), ahead, f.b, make([]byte, 9)), f.err)
					getRefuses(t, what+", too many behind", framed(byte(kind), ahead, f.b, behind, []byte{7}), f.err)
				}
				what := text(m) + ": nothing at " + name
				getRefuses(t, what, framed(byte(kind), ahead), api.ErrShort)
				for size := byte(1); size <= 8; size++ {
					for n := range int(size) {
						some := []byte{0, 0, 0, 0, 0, 0, 0, 0, 0}[:1+n]
						some[0] = size
						getRefuses(t, what+" whole", framed(byte(kind), ahead, some), api.ErrShort)
					}
				}
			}
		}
	}
}

// P4.3: of faults in two fields, that of the first one is told, whatever the second one is.
func TestGetOfFaultsInTwoFields(t *testing.T) {
	pairs := 0
	for kind := 1; kind <= 18; kind++ {
		names := fieldsOf(kind)
		rows := allBytes(full(kind))
		for i := range names {
			for j := i + 1; j < len(names); j++ {
				for _, f := range faults(names[i]) {
					for _, g := range faults(names[j]) {
						b := framed(byte(kind), slices.Concat(rows[:i]...), f.b, slices.Concat(rows[i+1:j]...), g.b)
						getRefuses(t, fmt.Sprintf("kind %d: %s is %s, %s is %s", kind, names[i], f.name, names[j], g.name), b, f.err)
						if f.err != g.err {
							pairs++
						}
					}
				}
			}
		}
	}
	if pairs == 0 {
		t.Error("no two faults had two errors")
	}
}

// P4.3: the edges of numbers and lists, field by field, all other fields as they may be.
func TestGetAtTheEdges(t *testing.T) {
	for kind := 1; kind <= 18; kind++ {
		rows := allBytes(full(kind))
		for i, name := range fieldsOf(kind) {
			if topOf(name) == big {
				m := with(full(kind), name, big)
				gets(t, "the greatest "+name, wantPut(m), m, api.OK)
				continue
			}
			for _, x := range []uint64{0, 1, topOf(name) - 1, topOf(name)} {
				m := with(full(kind), name, x)
				gets(t, fmt.Sprint(name, " ", x), wantPut(m), m, api.OK)
			}
			e := api.ErrForm
			if name == "Vec" || name == "Body" {
				e = api.ErrBig
			}
			m := with(full(kind), name, topOf(name)+1)
			b := framed(byte(kind), slices.Concat(rows[:i]...), fieldBytes(m, name), slices.Concat(rows[i+1:]...))
			getRefuses(t, text(m), b, e)
		}
	}
}

// P4.3: of a Vec so many numbers are read as it tells, not one more.
func TestGetOfAVec(t *testing.T) {
	for n := range 257 {
		m := msg.Msg{Kind: msg.Report, Shard: 1, Seg: 2, Vec: someNumbers(n)}
		head := []byte{1, 1, 1, 2}
		tail := fieldBytes(m, "Vec")
		gets(t, text(m), framed(6, head, tail), m, api.OK)
		getRefuses(t, "one number more", framed(6, head, tail, []byte{1, 1}), api.ErrLeft)
		if n < 256 {
			less := number(uint64(n + 1))
			getRefuses(t, "one number fewer", framed(6, head, less, tail[len(number(uint64(n))):]), api.ErrShort)
		}
	}
	zeros := msg.Msg{Kind: msg.Report, Vec: make([]uint64, 256)}
	gets(t, "256 noughts", framed(6, []byte{0, 0, 2, 1, 0}, make([]byte, 256)), zeros, api.OK)
	getRefuses(t, "257 noughts", framed(6, []byte{0, 0, 2, 1, 1}, make([]byte, 257)), api.ErrBig)
	getRefuses(t, "256 noughts, one is missing", framed(6, []byte{0, 0, 2, 1, 0}, make([]byte, 255)), api.ErrShort)
}

// P4.3: of a Body so many bytes are read as it tells; too many are told ahead of those that are missing.
func TestGetOfABody(t *testing.T) {
	for _, n := range []int{0, 1, 2, 255, 256, 257, 4000, 32767, 32768} {
		m := msg.Msg{Kind: msg.Learn, Slot: 3, Body: someBytes(n)}
		gets(t, text(m), framed(12, []byte{1, 3}, number(uint64(n)), m.Body), m, api.OK)
		getRefuses(t, "one byte more", framed(12, []byte{1, 3}, number(uint64(n)), m.Body, []byte{0}), api.ErrLeft)
		if n > 0 {
			getRefuses(t, "one byte fewer", framed(12, []byte{1, 3}, number(uint64(n)), m.Body[1:]), api.ErrShort)
		}
	}
	for _, n := range []int{0, 1, 32768, 32769} {
		getRefuses(t, "32769", framed(12, []byte{1, 3}, number(32769), make([]byte, n)), api.ErrBig)
		getRefuses(t, "65535", framed(12, []byte{1, 3}, number(65535), make([]byte, n)), api.ErrBig)
	}
}

// P4.3: lists that are got are in new memory, and what was handed in stays as it is.
func TestGetIsInNewMemory(t *testing.T) {
	for kind := 1; kind <= 18; kind++ {
		want := full(kind)
		b := wantPut(want)
		changed, _ := msg.Get(b)
		other, _ := msg.Get(b)
		for i := range changed.Vec {
			changed.Vec[i]++
		}
		for i := range changed.Body {
			changed.Body[i] ^= 255
		}
		_ = append(changed.Vec, 77, 77, 77, 77, 77)
		_ = append(changed.Body, 77, 77, 77, 77, 77)
		same(t, "what was handed in", b, wantPut(want))
		for i := range b {
			b[i] ^= 255
		}
		isMsg(t, "another answer", other, want)
	}
}

// P4.4: what is put is got.
func TestWhatIsPutIsGot(t *testing.T) {
	for _, m := range good() {
		gets(t, "what is put", put(t, m), m, api.OK)
	}
	for kind := 1; kind <= 18; kind++ {
		for x := range uint64(200) {
			m := msg.Msg{Kind: kind}
			for i, name := range fieldsOf(kind) {
				m = with(m, name, min((x*2654435761+uint64(i)*40503)>>(x%40), topOf(name)))
			}
			gets(t, "what is put", put(t, m), m, api.OK)
		}
	}
}

// putAgain tells whether a message is got of bytes as the document says; what is got must be put as the same bytes.
func putAgain(t *testing.T, kind byte, body []byte) bool {
	t.Helper()
	b := framed(kind, body)
	want, e := wantFields(kind, body)
	gets(t, fmt.Sprintf("kind %d of % d", kind, short(body)), b, want, e)
	m, e := msg.Get(b)
	if e != api.OK {
		return false
	}
	isErr(t, "Check of what was got", msg.Check(m), api.OK)
	same(t, "what is put of what was got", put(t, m), b)
	return true
}

// P4.4: what is got is put as the same bytes: of all rows of a few bytes, out of those that tell most.
func TestBytesThatAreGotArePut(t *testing.T) {
	few := []byte{0, 1, 2, 3, 4, 8, 9, 255}
	got := 0
	for kind := byte(0); kind < 20; kind++ {
		rows := [][]byte{{}}
		for range 5 {
			var longer [][]byte
			for _, row := range rows {
				if putAgain(t, kind, row) {
					got++
				}
				for _, c := range few {
					longer = append(longer, append(row[:len(row):len(row)], c))
				}
			}
			rows = longer
		}
	}
	if got < 1000 {
		t.Errorf("got %d messages only", got)
	}
}

// P4.4: and of messages one byte of which was changed, in a right frame.
func TestChangedBytesThatAreGotArePut(t *testing.T) {
	for kind := byte(1); kind <= 18; kind++ {
		for _, m := range []msg.Msg{full(int(kind)), known()[int(kind)].m} {
			b := slices.Concat(allBytes(m)...)
			for i := range b {
				for x := range 256 {
					changed := bytes.Clone(b)
					changed[i] = byte(x)
					putAgain(t, kind, changed)
				}
			}
		}
	}
}

// P4.4: nothing stays of a message for the next one.
func TestMessagesKeepNothing(t *testing.T) {
	for range 2 {
		for kind := 1; kind <= 18; kind++ {
			m := full(kind)
			b := put(t, m)
			refused(t, msg.Msg{Kind: kind, Shard: 8})
			getRefuses(t, "cut", b[:len(b)-1], api.ErrShort)
			gets(t, "whole", b, m, api.OK)
			gets(t, "with none of its fields", put(t, msg.Msg{Kind: kind}), msg.Msg{Kind: kind}, api.OK)
		}
	}
}
