package octet_test

import (
	"bytes"
	"encoding/binary"
	"math"
	"strings"
	"testing"

	"copse/api"
	"copse/octet"
)

func wantBytes(t *testing.T, what string, got, want []byte) {
	t.Helper()
	if !bytes.Equal(got, want) {
		t.Errorf("%s: % x, want % x", what, got, want)
	}
}

// reading watches a reader: each call's answer, and how many bytes are left behind it.
type reading struct {
	t *testing.T
	r *octet.Reader
}

func read(t *testing.T, b ...byte) reading {
	return reading{t, octet.NewReader(b)}
}

func (x reading) number(width int, want uint64, e api.Errno, left int) {
	x.t.Helper()
	n, got := x.r.Number(width)
	if n != want || got != e || x.r.Left() != left {
		x.t.Errorf("Number(%d): %d, %d, %d left, want %d, %d, %d left", width, n, got, x.r.Left(), want, e, left)
	}
}

func (x reading) int(want int, e api.Errno, left int) {
	x.t.Helper()
	n, got := x.r.Int()
	if n != want || got != e || x.r.Left() != left {
		x.t.Errorf("Int(): %d, %d, %d left, want %d, %d, %d left", n, got, x.r.Left(), want, e, left)
	}
}

func (x reading) text(most int, want string, e api.Errno, left int) {
	x.t.Helper()
	s, got := x.r.Text(most)
	if s != want || got != e || x.r.Left() != left {
		x.t.Errorf("Text(%d): %q, %d, %d left, want %q, %d, %d left", most, s, got, x.r.Left(), want, e, left)
	}
}

func (x reading) end(e api.Errno, left int) {
	x.t.Helper()
	if got := x.r.End(); got != e || x.r.Left() != left {
		x.t.Errorf("End(): %d, %d left, want %d, %d left", got, x.r.Left(), e, left)
	}
}

// P1.1

func TestPutLaysTheLowestByteFirst(t *testing.T) {
	wantBytes(t, "uint16 258 behind 9", octet.Put([]byte{9}, uint16(258)), []byte{9, 2, 1})
	wantBytes(t, "uint8 0", octet.Put(nil, uint8(0)), []byte{0})
	wantBytes(t, "uint8 255", octet.Put([]byte{}, uint8(255)), []byte{255})
	wantBytes(t, "uint16 0", octet.Put(nil, uint16(0)), []byte{0, 0})
	wantBytes(t, "uint16 65535", octet.Put(nil, uint16(math.MaxUint16)), []byte{255, 255})
	wantBytes(t, "uint32 0x04030201", octet.Put([]byte{0}, uint32(0x04030201)), []byte{0, 1, 2, 3, 4})
	wantBytes(t, "uint32 most", octet.Put(nil, uint32(math.MaxUint32)), []byte{255, 255, 255, 255})
	wantBytes(t, "uint64 0x0807060504030201", octet.Put(nil, uint64(0x0807060504030201)), []byte{1, 2, 3, 4, 5, 6, 7, 8})
	wantBytes(t, "uint64 0", octet.Put(nil, uint64(0)), make([]byte, 8))
	wantBytes(t, "uint64 most", octet.Put(nil, uint64(math.MaxUint64)), bytes.Repeat([]byte{255}, 8))
}

func TestPutOfEachBit(t *testing.T) {
	head := []byte{7, 7}
	for bit := range 64 {
		v := uint64(1) << bit
		wantBytes(t, "uint64", octet.Put(head, v), binary.LittleEndian.AppendUint64([]byte{7, 7}, v))
		wantBytes(t, "uint32", octet.Put(head, uint32(v)), binary.LittleEndian.AppendUint32([]byte{7, 7}, uint32(v)))
		wantBytes(t, "uint16", octet.Put(head, uint16(v)), binary.LittleEndian.AppendUint16([]byte{7, 7}, uint16(v)))
		wantBytes(t, "uint8", octet.Put(head, uint8(v)), []byte{7, 7, uint8(v)})
	}
}

func TestTextLaysLengthThenBytes(t *testing.T) {
	wantBytes(t, "ab", octet.Text(nil, "ab"), []byte{2, 0, 0, 0, 0x61, 0x62})
	wantBytes(t, "none", octet.Text(nil, ""), []byte{0, 0, 0, 0})
	wantBytes(t, "none behind 5", octet.Text([]byte{5}, ""), []byte{5, 0, 0, 0, 0})
	wantBytes(t, "behind 5, 6", octet.Text([]byte{5, 6}, "x"), []byte{5, 6, 1, 0, 0, 0, 'x'})
	wantBytes(t, "bytes that are no letters", octet.Text(nil, "\xff\x00\xc3"), []byte{3, 0, 0, 0, 0xff, 0, 0xc3})
	wantBytes(t, "a letter of two bytes", octet.Text(nil, "\u00e9"), []byte{2, 0, 0, 0, 0xc3, 0xa9})
	long := strings.Repeat("x", 65536+256+3)
	wantBytes(t, "a long one", octet.Text(nil, long), append([]byte{3, 1, 1, 0}, long...))
}

func TestJoinLaysAllRows(t *testing.T) {
	wantBytes(t, "no row", octet.Join(), nil)
	wantBytes(t, "a row of none", octet.Join(nil), nil)
	wantBytes(t, "rows of none", octet.Join(nil, []byte{}, nil), nil)
	wantBytes(t, "one", octet.Join([]byte{1, 2}), []byte{1, 2})
	wantBytes(t, "three, one of none", octet.Join([]byte{1, 2}, nil, []byte{3}), []byte{1, 2, 3})
	row := []byte{4, 5}
	wantBytes(t, "the same twice", octet.Join(row, row), []byte{4, 5, 4, 5})
	rows := [][]byte{{1}, {2}, {3}}
	wantBytes(t, "a list of rows", octet.Join(rows...), []byte{1, 2, 3})
}

// P1.2, P1.3

func TestReaderOfTheSecondExample(t *testing.T) {
	x := read(t, 2, 0, 0, 0, 0x61, 0x62, 7)
	x.text(1, "", api.ErrBytes, 7)
	x.number(3, 0, api.ErrBytes, 7)
	x.int(0, api.ErrShort, 7)
	x.text(2, "ab", api.OK, 1)
	x.end(api.ErrBytes, 1)
	x.number(2, 0, api.ErrShort, 1)
	x.number(1, 7, api.OK, 0)
	x.end(api.OK, 0)
}

func TestReaderOfTheThirdExample(t *testing.T) {
	x := read(t, bytes.Repeat([]byte{255}, 8)...)
	x.int(0, api.ErrBytes, 8)
	x.number(8, math.MaxUint64, api.OK, 0)
	x = read(t, 0xff, 0xff, 0xff, 0x7f)
	x.text(1<<31-1, "", api.ErrShort, 4)
	x.text(9, "", api.ErrBytes, 4)
	x = read(t, 0, 0, 0, 0)
	x.text(-1, "", api.ErrBytes, 4)
	x.text(0, "", api.OK, 0)
}

func TestNumberOfEachWidth(t *testing.T) {
	all := []byte{0x81, 0x92, 0xa3, 0xb4, 0xc5, 0xd6, 0xe7, 0xf8, 0x09, 0x1a, 0x2b, 0x3c, 0x4d, 0x5e, 0x6f}
	x := read(t, all...)
	x.number(1, 0x81, api.OK, 14)
	x.number(2, 0xa392, api.OK, 12)
	x.number(4, 0xe7d6c5b4, api.OK, 8)
	x.number(8, 0x6f5e4d3c2b1a09f8, api.OK, 0)
	for _, width := range []int{1, 2, 4, 8} {
		x := read(t, all[:width-1]...)
		x.number(width, 0, api.ErrShort, width-1)
		x = read(t, all[:width]...)
		want := make([]byte, 8)
		copy(want, all[:width])
		x.number(width, binary.LittleEndian.Uint64(want), api.OK, 0)
	}
}

func TestNumberOfWrongWidths(t *testing.T) {
	for _, width := range []int{math.MinInt, -8, -1, 0, 3, 5, 6, 7, 9, 16, 32, 64, math.MaxInt} {
		read(t, 1, 2, 3, 4, 5, 6, 7, 8, 9).number(width, 0, api.ErrBytes, 9)
		// a wrong width is told ahead of bytes that end too early
		read(t).number(width, 0, api.ErrBytes, 0)
	}
}

func TestIntAtItsEdges(t *testing.T) {
	read(t).int(0, api.ErrShort, 0)
	read(t, 255, 255, 255, 255, 255, 255, 255).int(0, api.ErrShort, 7)
	read(t, 0, 0, 0, 0, 0, 0, 0, 0).int(0, api.OK, 0)
	read(t, 1, 0, 0, 0, 0, 0, 0, 0, 5).int(1, api.OK, 1)
	read(t, 255, 255, 255, 255, 255, 255, 255, 127).int(math.MaxInt64, api.OK, 0)
	x := read(t, 0, 0, 0, 0, 0, 0, 0, 128, 5)
	x.int(0, api.ErrBytes, 9)
	x.number(8, 1<<63, api.OK, 1)
}

func TestTextAtItsEdges(t *testing.T) {
	for n := range 4 {
		// too few bytes for a length are told ahead of a length above most
		read(t, make([]byte, n)...).text(-1, "", api.ErrShort, n)
		read(t, make([]byte, n)...).text(math.MaxInt, "", api.ErrShort, n)
	}
	// a length above most is told ahead of too few bytes behind it
	read(t, 3, 0, 0, 0).text(2, "", api.ErrBytes, 4)
	read(t, 3, 0, 0, 0, 'a', 'b').text(3, "", api.ErrShort, 6)
	read(t, 3, 0, 0, 0, 'a', 'b', 'c').text(3, "abc", api.OK, 0)
	read(t, 3, 0, 0, 0, 'a', 'b', 'c', 'd').text(4, "abc", api.OK, 1)
	read(t, 3, 0, 0, 0, 'a', 'b', 'c', 'd').text(math.MaxInt, "abc", api.OK, 1)
	read(t, 0, 0, 0, 0).text(math.MinInt, "", api.ErrBytes, 4)
	read(t, 0, 0, 0, 0, 9).text(0, "", api.OK, 1)
	// the length has all of its four bytes, and no sign
	read(t, 0, 0, 0, 128, 1).text(1<<31-1, "", api.ErrBytes, 5)
	read(t, 0, 0, 0, 128, 1).text(1<<31, "", api.ErrShort, 5)
	read(t, 255, 255, 255, 255, 1).text(1<<32-2, "", api.ErrBytes, 5)
	read(t, 255, 255, 255, 255, 1).text(1<<32-1, "", api.ErrShort, 5)
	read(t, 0, 1, 0, 0, 1).text(255, "", api.ErrBytes, 5)
	read(t, 3, 0, 0, 0, 0xff, 0, 0xc3).text(3, "\xff\x00\xc3", api.OK, 0)
}

func TestLeftAndEndTakeNothing(t *testing.T) {
	for _, b := range [][]byte{nil, {}} {
		x := read(t, b...)
		x.end(api.OK, 0)
		x.end(api.OK, 0)
		x.number(1, 0, api.ErrShort, 0)
	}
	x := read(t, 4, 5)
	for range 3 {
		x.end(api.ErrBytes, 2)
	}
	x.number(1, 4, api.OK, 1)
	x.end(api.ErrBytes, 1)
	x.number(1, 5, api.OK, 0)
	x.end(api.OK, 0)
}

func TestReadersAreApart(t *testing.T) {
	b := []byte{1, 2}
	x, y := read(t, b...), read(t, b...)
	x.number(1, 1, api.OK, 1)
	y.number(2, 513, api.OK, 0)
	x.number(1, 2, api.OK, 0)
}

// P1.4

// item is what is put, and how it is read back.
type item struct {
	put  func(b []byte) []byte
	back func(r *octet.Reader) (same bool, e api.Errno)
}

func number[T uint8 | uint16 | uint32 | uint64](width int, v T) item {
	return item{
		func(b []byte) []byte { return octet.Put(b, v) },
		func(r *octet.Reader) (bool, api.Errno) {
			n, e := r.Number(width)
			return n == uint64(v), e
		},
	}
}

func whole(v int) item {
	return item{
		func(b []byte) []byte { return octet.Put(b, uint64(v)) },
		func(r *octet.Reader) (bool, api.Errno) {
			n, e := r.Int()
			return n == v, e
		},
	}
}

func text(v string) item {
	return item{
		func(b []byte) []byte { return octet.Text(b, v) },
		func(r *octet.Reader) (bool, api.Errno) {
			s, e := r.Text(len(v))
			return s == v, e
		},
	}
}

func items() []item {
	return []item{
		number(1, uint8(0)), number(1, uint8(255)),
		number(2, uint16(258)), number(2, uint16(math.MaxUint16)),
		number(4, uint32(1)), number(4, uint32(1<<31)),
		number(8, uint64(1)<<63), number(8, uint64(math.MaxUint64)),
		whole(0), whole(math.MaxInt64), whole(1 << 32),
		text(""), text("ab"), text("\x00\xff"), text(strings.Repeat("y", 300)),
	}
}

func checkBack(t *testing.T, row ...item) {
	t.Helper()
	var b []byte
	for _, x := range row {
		b = x.put(b)
	}
	r := octet.NewReader(b)
	for i, x := range row {
		if same, e := x.back(r); !same || e != api.OK {
			t.Fatalf("item %d of % x: same %t, error %d", i, b, same, e)
		}
	}
	if e := r.End(); e != api.OK {
		t.Fatalf("End of % x: %d", b, e)
	}
	r = octet.NewReader(b[:len(b)-1])
	for i, x := range row {
		same, e := x.back(r)
		if last := i == len(row)-1; last && e != api.ErrShort || !last && (!same || e != api.OK) {
			t.Fatalf("item %d of % x without its last byte: same %t, error %d", i, b, same, e)
		}
	}
}

func TestWhatWasPutComesBack(t *testing.T) {
	for _, x := range items() {
		checkBack(t, x)
		for _, y := range items() {
			checkBack(t, x, y)
			for _, z := range items() {
				checkBack(t, x, y, z)
			}
		}
	}
}

func TestWhatWasJoinedComesBack(t *testing.T) {
	b := octet.Join(octet.Put(nil, uint32(2)), octet.Text(nil, "ab"), octet.Put(nil, uint64(9)))
	x := read(t, b...)
	x.number(4, 2, api.OK, 14)
	x.text(2, "ab", api.OK, 8)
	x.int(9, api.OK, 0)
	x.end(api.OK, 0)
}

// P1.5

// roomy gives a list with marked spare room, and a look at all of its memory.
func roomy(b ...byte) (list, all []byte) {
	all = bytes.Repeat([]byte{0xee}, len(b)+64)
	copy(all, b)
	return all[:len(b)], all
}

// spoil writes over a list and all of its spare room.
func spoil(b []byte) {
	b = b[:cap(b)]
	for i := range b {
		b[i] = 0x55
	}
}

// The calls that answer a list, each with one list that is handed in.
func listCalls() map[string]func(b []byte) []byte {
	return map[string]func(b []byte) []byte{
		"Put uint8":     func(b []byte) []byte { return octet.Put(b, uint8(1)) },
		"Put uint16":    func(b []byte) []byte { return octet.Put(b, uint16(1)) },
		"Put uint32":    func(b []byte) []byte { return octet.Put(b, uint32(1)) },
		"Put uint64":    func(b []byte) []byte { return octet.Put(b, uint64(1)) },
		"Text":          func(b []byte) []byte { return octet.Text(b, "ab") },
		"Text of none":  func(b []byte) []byte { return octet.Text(b, "") },
		"Join of one":   func(b []byte) []byte { return octet.Join(b) },
		"Join first":    func(b []byte) []byte { return octet.Join(b, []byte{8}) },
		"Join last":     func(b []byte) []byte { return octet.Join([]byte{8}, b) },
		"Join and none": func(b []byte) []byte { return octet.Join(nil, b, nil) },
		"Join of twice": func(b []byte) []byte { return octet.Join(b, b) },
	}
}

func TestAnswersAreNewMemory(t *testing.T) {
	for what, call := range listCalls() {
		for n := range 4 {
			list, all := roomy([]byte{1, 2, 3}[:n]...)
			before := bytes.Clone(all)
			one := call(list)
			wantBytes(t, what+": what was handed in", all, before)
			kept := bytes.Clone(one)
			other := call(list)
			spoil(other)
			wantBytes(t, what+": what was handed in, the answer written over", all, before)
			wantBytes(t, what+": the answer, a second one written over", one, kept)
			spoil(all)
			wantBytes(t, what+": the answer, what was handed in written over", one, kept)
		}
	}
}

func TestJoinLeavesTheListOfRows(t *testing.T) {
	a, b, c := []byte{1}, []byte{2}, []byte{3}
	rows := [][]byte{a, b, c}
	got := octet.Join(rows[:2]...)
	wantBytes(t, "two of three rows", got, []byte{1, 2})
	if len(rows[0]) != 1 || &rows[0][0] != &a[0] || &rows[1][0] != &b[0] || &rows[2][0] != &c[0] {
		t.Errorf("the list of rows was changed: %v", rows)
	}
}

func TestReaderKeepsNothingThatIsHandedIn(t *testing.T) {
	list, all := roomy(2, 0, 0, 0, 'a', 'b', 7, 0)
	before := bytes.Clone(all)
	x := reading{t, octet.NewReader(list)}
	x.text(2, "ab", api.OK, 2)
	x.number(2, 7, api.OK, 0)
	x.number(1, 0, api.ErrShort, 0)
	wantBytes(t, "what was handed in", all, before)

	x = reading{t, octet.NewReader(list)}
	spoil(all)
	s, e := x.r.Text(2)
	if s != "ab" || e != api.OK {
		t.Errorf("Text, what was handed in written over: %q, %d", s, e)
	}
	x.number(2, 7, api.OK, 0)
	if s != "ab" {
		t.Errorf("a text changed behind its answer: %q", s)
	}
}
