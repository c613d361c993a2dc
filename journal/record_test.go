package journal_test

import (
	"bytes"
	"encoding/hex"
	"fmt"
	"math"
	"math/rand"
	"slices"
	"strings"
	"testing"

	"copse/api"
	"copse/journal"
)

// P23.1

// records: just these bytes, and they are read back behind a byte 1 alone.
func records(t *testing.T, want []byte, steps ...api.Step) {
	t.Helper()
	got, e := journal.Record(steps)
	if !bytes.Equal(got, want) || e != api.OK {
		t.Fatalf("P23.1: Record(%+v): % x, %d, want % x", steps, got, e, want)
	}
	reads(t, append(slices.Clone(want), 1), true, steps...)
	for _, b := range [][]byte{want, append(slices.Clone(want), 0), append(slices.Clone(want), 2), append(slices.Clone(want), 1, 1)} {
		reads(t, b, false)
	}
}

func reads(t *testing.T, b []byte, ok bool, want ...api.Step) {
	t.Helper()
	if got, is := journal.Read(b); !slices.Equal(got, want) || is != ok {
		t.Fatalf("P23.1: Read(% x): %+v, %v, want %+v, %v", b, got, is, want, ok)
	}
}

// readsAsTold: as the oracle reads it.
func readsAsTold(t *testing.T, b []byte) bool {
	t.Helper()
	want, ok := stepsIn(b)
	reads(t, b, ok, want...)
	return ok
}

func unhex(t *testing.T, rows ...string) []byte {
	t.Helper()
	b, err := hex.DecodeString(strings.ReplaceAll(strings.Join(rows, ""), " ", ""))
	if err != nil {
		t.Fatal(err)
	}
	return b
}

func TestExample5(t *testing.T) {
	none := unhex(t, "0800000000000000", "0000000000000000")
	records(t, none)
	if got, e := journal.Record([]api.Step{}); !bytes.Equal(got, none) || e != api.OK {
		t.Errorf("P23.1: % x, %d", got, e)
	}
	reads(t, append(slices.Clone(none), 1), true)
	reads(t, none, false)
	reads(t, append(slices.Clone(none), 2), false)
	reads(t, append(slices.Clone(none), 1, 1), false)
	w := begin(t, f("a/b", 1)).journal(1, 2, 3)
	answers(t, "P23.3", w.recovers(), api.OK)
	w.has("P23.3", list(f("a/b", 1)), ps("a"), nil, 2)
}

func TestRecordByteByByte(t *testing.T) {
	records(t, unhex(t, "1000000000000000", "0100000000000000", "01 03000000 612f62"), remove("a/b"))
	records(t, unhex(t, "1000000000000000", "0100000000000000", "02 03000000 612f62"), rmdir("a/b"))
	records(t, unhex(t, "0e00000000000000", "0100000000000000", "03 01000000 61"), mkdir("a"))
	records(t, unhex(t, "2200000000000000", "0100000000000000", "04 01000000 61", "00000000", "0807060504030201", "0f0e0d0c0b0a0920"),
		write(api.File{Path: "a", Blob: 0x0102030405060708, Size: 0x20090a0b0c0d0e0f}))
	records(t, unhex(t, "2200000000000000", "0100000000000000", "04 01000000 61", "00000000", "0000000000000010", "0000000000000040"),
		write(api.File{Path: "a", Blob: 1 << 60, Size: 1 << 62}))
	records(t, unhex(t, "2a00000000000000", "0100000000000000", "04 07000000 54415247455453", "02000000 ff00", "0000000000000000", "0200000000000000"),
		write(target("TARGETS", "\xff\x00")))
	records(t, unhex(t, "4c00000000000000", "0300000000000000",
		"01 03000000 612f62",
		"04 01000000 78 00000000 2c01000000000000 0100000000000000",
		"04 07000000 54415247455453 02000000 6869 0000000000000000 0200000000000000"),
		remove("a/b"), write(f("x", 300)), write(target("TARGETS", "hi")))
}

// someSteps are lists of steps that may be.
func someSteps() [][]api.Step {
	long := strings.Repeat(strings.Repeat("e", 29)+"/", 3) + strings.Repeat("e", 30)
	deep := strings.Repeat("d/", 11) + "f"
	var hundred, same []api.Step
	for i := range 100 {
		hundred = append(hundred, remove(fmt.Sprintf("a/%d", i)), mkdir(fmt.Sprintf("b/%d", i)), write(f(fmt.Sprintf("c/%d", i), i)), rmdir(fmt.Sprintf("d/%d", i)))
		same = append(same, mkdir("a"))
	}
	return [][]api.Step{
		nil, plans(remove("a")), plans(rmdir("a")), plans(mkdir("a")), plans(write(f("a", 0))), plans(write(api.File{Path: "a"})),
		plans(remove("a/b"), rmdir("a"), mkdir("d"), mkdir("d/e"), write(f("a", 2)), write(f("d/e/g", 1))),
		plans(write(target("TARGETS", "")), write(target("a/TARGETS", "target a{}")), write(target("b/TARGETS", strings.Repeat("x\x00\xff\n", 300)))),
		plans(remove("TARGETS"), rmdir("TARGETS"), mkdir("a/TARGETS"), write(f("TARGETS/x", 1)), write(f("TARGETS2", 1))),
		plans(write(api.File{Path: "a", Blob: 1 << 60}), write(api.File{Path: "a", Size: 1 << 62}), write(api.File{Path: "a", Blob: 1<<60 - 1, Size: 1<<62 - 1})),
		plans(remove(long), rmdir(deep), mkdir(long), write(f(deep, 1)), write(f(long, 1))),
		plans(mkdir("...."), mkdir("a.b-C_9"), remove(strings.Repeat("c", 32)), remove("-"), remove("_/.a")),
		hundred, same, slices.Concat(hundred, same, hundred),
	}
}

func TestRecordsAreReadBack(t *testing.T) {
	for _, l := range someSteps() {
		records(t, laid(l...), l...)
	}
	r := rand.New(rand.NewSource(1))
	for range 3000 {
		l := drawnSteps(r, r.Intn(9))
		records(t, laid(l...), l...)
	}
}

// drawnSteps are steps that may be, in no order.
func drawnSteps(r *rand.Rand, n int) []api.Step {
	var l []api.Step
	for range n {
		p := somePath(r, 3)
		l = append(l, [...]api.Step{remove(p), rmdir(p), mkdir(p), write(someFile(r, p))}[r.Intn(4)])
	}
	return l
}

// noSteps may not be.
func noSteps() []api.Step {
	var l []api.Step
	for _, kind := range []int{0, 5, 6, 9, -1, 255, math.MinInt, math.MaxInt, math.MinInt + 1, math.MaxInt - 1} {
		l = append(l, api.Step{Kind: kind}, api.Step{Kind: kind, Path: "a"}, api.Step{Kind: kind, Path: "a", File: f("a", 1)})
	}
	for k := 1; k <= 4; k++ { // in their last byte as those that may be
		for _, kind := range []int{-k, k + 1<<8, k + 1<<16, k + 1<<32, k + 1<<62, k + math.MinInt, '0' + k} {
			l = append(l, api.Step{Kind: kind, Path: "a"}, api.Step{Kind: kind, Path: "a", File: f("a", 1)})
		}
	}
	for _, p := range ps("", "/", "a/", "/a", "a//b", ".", "..", "...", "a/..", "a b", "a\x00", "é", strings.Repeat("c", 33),
		strings.Repeat("d/", 12)+"f", strings.Repeat(strings.Repeat("e", 29)+"/", 4)+"f", strings.Repeat("g", 70000)) {
		l = append(l, remove(p), rmdir(p), mkdir(p), write(api.File{Path: p}), write(f(p, 1)))
	}
	// of a Write the File's path is another, or its File may not be
	for _, p := range ps("", "b", "a/", "a/b", "A", "aa", "/a") {
		l = append(l, api.Step{Kind: 4, Path: "a", File: f(p, 1)}, api.Step{Kind: 4, Path: p, File: f("a", 1)})
	}
	for _, x := range []api.File{
		{}, {Path: "a", Text: "x"}, {Path: "a", Text: "x", Size: 1}, {Path: "a", Blob: -1}, {Path: "a", Blob: 1<<60 + 1}, {Path: "a", Blob: math.MinInt},
		{Path: "a", Blob: math.MaxInt}, {Path: "a", Size: -1}, {Path: "a", Size: 1<<62 + 1}, {Path: "a", Size: math.MinInt}, {Path: "a", Size: math.MaxInt},
	} {
		l = append(l, api.Step{Kind: 4, Path: "a", File: x})
	}
	for _, x := range []api.File{{Text: "x"}, {Text: "x", Size: 2}, {Size: 1}, {Size: -1}, {Text: "x", Size: 1, Blob: 1}, {Blob: 1}, {Blob: -1}} {
		for _, p := range ps("TARGETS", "a/TARGETS") {
			x.Path = p
			l = append(l, write(x))
		}
	}
	// of another one the File is not zero
	for kind := 1; kind <= 3; kind++ {
		for _, x := range []api.File{{Path: "a"}, {Path: "b"}, {Text: "x"}, {Blob: 1}, {Blob: -1}, {Size: 1}, {Size: -1}, f("a", 1)} {
			l = append(l, api.Step{Kind: kind, Path: "a", File: x})
		}
	}
	return l
}

func TestStepsThatMayNotBe(t *testing.T) {
	good := plans(remove("a"), write(f("b", 1)), mkdir("c"))
	for _, s := range noSteps() {
		if goodStep(s) {
			t.Fatalf("%+v", s)
		}
		for i := range len(good) + 1 {
			for _, l := range [][]api.Step{{s}, slices.Insert(slices.Clone(good), i, s), {s, s}} {
				if b, e := journal.Record(l); b != nil || e != api.ErrTree {
					t.Errorf("P23.1: Record(%.200q): % x, %d", fmt.Sprint(l), b, e)
				}
			}
		}
	}
}

// TestReadOfStepsThatMayNotBe: bytes that are laid as of steps that may be.
func TestReadOfStepsThatMayNotBe(t *testing.T) {
	good := plans(remove("a"), write(f("b", 1)), mkdir("c"))
	for _, s := range noSteps() {
		if s.Kind < 0 || s.Kind > 255 || s.Kind == 4 && s.File.Path != s.Path || s.Kind != 4 && s.File != (api.File{}) {
			continue // no bytes say that
		}
		for i := range len(good) + 1 {
			reads(t, whole(s), false)
			reads(t, whole(slices.Insert(slices.Clone(good), i, s)...), false)
		}
	}
	for kind := range 256 {
		for _, l := range [][]api.Step{{{Kind: kind, Path: "a"}}, {{Kind: kind, Path: "a", File: f("a", 1)}}, {{Kind: kind}}} {
			if ok := readsAsTold(t, whole(l...)); ok != (1 <= kind && kind <= 4 && l[0].Path == "a") {
				t.Errorf("P23.1: kind %d: %v", kind, ok)
			}
		}
	}
	// a file's parts behind a step that is no Write, and none, some or others behind a Write
	part := slices.Concat(text(""), number(1), number(1))
	tooLong := slices.Concat(number(1<<32-1), number(1)) // of the text's length, if a blob stands in its place
	for kind := byte(1); kind <= 4; kind++ {
		for _, tail := range [][]byte{nil, part, append(slices.Clone(part), 0), part[:19], part[4:], part[:12], part[:4], tooLong} {
			b := slices.Concat(number(1), []byte{kind}, text("a"), tail)
			b = slices.Concat(number(uint64(len(b))), b, []byte{1})
			if ok := readsAsTold(t, b); ok != (kind < 4 && len(tail) == 0 || kind == 4 && len(tail) == 20) {
				t.Errorf("P23.1: Read(% x): %v", b, ok)
			}
		}
	}
}

// TestReadOfOtherBytes: the bytes of committed journals cut, lengthened and turned, each in all places.
func TestReadOfOtherBytes(t *testing.T) {
	reads(t, nil, false)
	reads(t, []byte{}, false)
	for n := range 40 {
		reads(t, make([]byte, n), false)
		reads(t, bytes.Repeat([]byte{1}, n), false)
		reads(t, bytes.Repeat([]byte{255}, n), false)
	}
	for _, l := range someSteps() {
		b := whole(l...)
		if len(b) > 4000 {
			continue
		}
		for i := range b {
			reads(t, b[:i], false)
			reads(t, b[i+1:], false)
		}
		for c := range 256 {
			reads(t, append(slices.Clone(b), byte(c)), false)
			readsAsTold(t, append([]byte{byte(c)}, b...))
			reads(t, append(slices.Clone(b[:len(b)-1]), byte(c)), c == 1, ifCommitted(c == 1, l)...)
			if len(l) > 0 {
				readsAsTold(t, slices.Concat(b[:len(b)-2], []byte{byte(c), 1}))
			}
		}
	}
}

func ifCommitted(ok bool, l []api.Step) []api.Step {
	if !ok {
		return nil
	}
	return l
}

func TestReadOfTurnedBytes(t *testing.T) {
	yes, no := 0, 0
	for _, l := range [][]api.Step{nil, plans(mkdir("a")), plans(remove("a/b"), rmdir("a"), write(f("a", 2)), mkdir("d")), plans(write(target("TARGETS", "hi")), write(f("TARGETS2/x", 1)))} {
		b := whole(l...)
		for i := range b {
			for c := range 256 {
				x := slices.Clone(b)
				x[i] = byte(c)
				if readsAsTold(t, x) {
					yes++
				} else {
					no++
				}
			}
		}
	}
	if yes < 100 || no < 10000 {
		t.Errorf("%d are committed, %d are not", yes, no)
	}
}

// TestReadOfOtherNumbers lays numbers at every place: among them stand all lengths, counts, blobs and sizes.
func TestReadOfOtherNumbers(t *testing.T) {
	var wide []uint64
	for _, n := range []uint64{0, 1, 2, 3, 4, 5, 8, 16, 120, 121, 1 << 8, 1 << 16, 1 << 31, 1 << 32, 1 << 60, 1 << 61, 1 << 62, 1 << 63} {
		wide = append(wide, n-1, n, n+1)
	}
	for _, l := range [][]api.Step{nil, plans(remove("a/b")), plans(mkdir("a"), write(f("a/b", 2)), rmdir("e")), plans(write(target("TARGETS", "hi")), remove("a"))} {
		b := whole(l...)
		for i := range b {
			for _, n := range wide {
				for _, width := range []int{4, 8} {
					x := slices.Clone(b)
					if copy(x[i:], number(n)[:width]); len(x) == len(b) {
						readsAsTold(t, x)
					}
				}
			}
		}
		for _, n := range wide { // of the whole, and of steps
			body := b[8 : len(b)-1]
			reads(t, slices.Concat(number(n), body, []byte{1}), n == uint64(len(body)), ifCommitted(n == uint64(len(body)), l)...)
			reads(t, slices.Concat(number(uint64(len(body))), number(n), body[8:], []byte{1}), n == uint64(len(l)), ifCommitted(n == uint64(len(l)), l)...)
		}
	}
}

// TestReadOfCountsThatNoBytesHold: the bytes end the reading, not the count.
func TestReadOfCountsThatNoBytesHold(t *testing.T) {
	for _, n := range []uint64{1, 2, 1000, 1 << 31, 1 << 32, 1 << 40, 1<<62 - 1, 1<<63 - 1, 1 << 63, math.MaxUint64} {
		for _, body := range [][]byte{nil, {3}, slices.Concat([]byte{3}, text("a")), bytes.Repeat(slices.Concat([]byte{3}, text("a")), 500)} {
			b := slices.Concat(number(n), body)
			b = slices.Concat(number(uint64(len(b))), b, []byte{1})
			readsAsTold(t, b)
			if n > 500 || n > 1 && len(body) < 100 {
				reads(t, b, false)
			}
		}
	}
}

// TestManySteps: as many as a great plan has, and more.
func TestManySteps(t *testing.T) {
	var l []api.Step
	for i := range 60000 {
		l = append(l, write(f(fmt.Sprintf("%d/%d", i%7, i), i)), remove(fmt.Sprintf("x%d", i)))
	}
	b, e := journal.Record(l)
	if !bytes.Equal(b, laid(l...)) || e != api.OK {
		t.Fatalf("P23.1: %d bytes, %d", len(b), e)
	}
	if m, ok := journal.Read(append(b, 1)); !ok || !slices.Equal(m, l) {
		t.Errorf("P23.1: %d steps, %v", len(m), ok)
	}
	text := strings.Repeat("manifest\n", 1<<20)
	big := plans(write(target("TARGETS", text)), mkdir("a"))
	b, e = journal.Record(big)
	if m, ok := journal.Read(append(b, 1)); e != api.OK || !ok || !slices.Equal(m, big) {
		t.Errorf("P23.1: %d bytes, %d, %v", len(b), e, ok)
	}
}

// TestReadOfAllShortBytes: behind a count of one or two steps, all bytes of a small alphabet.
func TestReadOfAllShortBytes(t *testing.T) {
	signs := []byte{0, 1, 2, 3, 4, 'a', '/'}
	for count := range uint64(3) {
		for n := range 5 {
			row := make([]int, n)
			for done := false; !done; {
				b := slices.Clone(number(count))
				for _, i := range row {
					b = append(b, signs[i], 0, 0, 0)
				}
				readsAsTold(t, slices.Concat(number(uint64(len(b))), b, []byte{1}))
				readsAsTold(t, slices.Concat(number(uint64(len(b)-1)), b))
				done = true
				for i := range row {
					if row[i]++; row[i] < len(signs) {
						done = false
						break
					}
					row[i] = 0
				}
			}
		}
	}
}
