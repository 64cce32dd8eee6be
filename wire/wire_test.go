package wire

import (
	"bytes"
	"math"
	"slices"
	"testing"

	"almagest/api"
)

// thing is something that is written and read; its bytes are written out by
// hand, so that they don't hang on what is tested.
type thing struct {
	name  string
	want  []byte
	write func(w *Writer)
	reads func(r *Reader) bool // whether it reads as what was written
	zero  func(r *Reader) bool // whether it reads as 0, or none
}

// run tells n bytes, none of which is like those about it.
func run(n int) []byte {
	out := make([]byte, n)
	for i := range out {
		out[i] = byte(7*i + 3)
	}
	return out
}

// each tells a digest every byte of which is its own.
func each() api.Hash {
	var h api.Hash
	for i := range h {
		h[i] = byte(i + 1)
	}
	return h
}

// full tells a digest of the greatest bytes.
func full() api.Hash { return api.Hash(bytes.Repeat([]byte{255}, 32)) }

func byteThing(n byte) thing {
	return thing{
		"Byte", []byte{n},
		func(w *Writer) { w.Byte(n) },
		func(r *Reader) bool { return r.Byte() == n },
		func(r *Reader) bool { return r.Byte() == 0 },
	}
}

func numThing(n uint32, want ...byte) thing {
	return thing{
		"Num", want,
		func(w *Writer) { w.Num(n) },
		func(r *Reader) bool { return r.Num() == n },
		func(r *Reader) bool { return r.Num() == 0 },
	}
}

func longThing(n uint64, want ...byte) thing {
	return thing{
		"Long", want,
		func(w *Writer) { w.Long(n) },
		func(r *Reader) bool { return r.Long() == n },
		func(r *Reader) bool { return r.Long() == 0 },
	}
}

func hashThing(h api.Hash) thing {
	return thing{
		"Hash", h[:],
		func(w *Writer) { w.Hash(h) },
		func(r *Reader) bool { return r.Hash() == h },
		func(r *Reader) bool { return r.Hash() == api.Hash{} },
	}
}

// textThing is of b, and is read with its own length as the most there may be.
func textThing(b []byte) thing {
	return thing{
		"Text", append([]byte{byte(len(b))}, b...),
		func(w *Writer) { w.Text(b) },
		func(r *Reader) bool { return bytes.Equal(r.Text(len(b)), b) },
		func(r *Reader) bool { return len(r.Text(len(b))) == 0 },
	}
}

// things tells each kind of thing, at its edges and with each byte of its own.
func things() []thing {
	return []thing{
		byteThing(0),
		byteThing(1),
		byteThing(127),
		byteThing(128),
		byteThing(255),
		numThing(0, 0, 0, 0, 0),
		numThing(1, 0, 0, 0, 1),
		numThing(255, 0, 0, 0, 255),
		numThing(256, 0, 0, 1, 0),
		numThing(258, 0, 0, 1, 2),
		numThing(1<<31-1, 127, 255, 255, 255),
		numThing(1<<31, 128, 0, 0, 0),
		numThing(math.MaxUint32, 255, 255, 255, 255),
		numThing(0x01020304, 1, 2, 3, 4),
		numThing(0xfcfdfeff, 252, 253, 254, 255),
		longThing(0, 0, 0, 0, 0, 0, 0, 0, 0),
		longThing(1, 0, 0, 0, 0, 0, 0, 0, 1),
		longThing(math.MaxUint32, 0, 0, 0, 0, 255, 255, 255, 255),
		longThing(1<<32, 0, 0, 0, 1, 0, 0, 0, 0),
		longThing(1<<63-1, 127, 255, 255, 255, 255, 255, 255, 255),
		longThing(1<<63, 128, 0, 0, 0, 0, 0, 0, 0),
		longThing(math.MaxUint64, 255, 255, 255, 255, 255, 255, 255, 255),
		longThing(0x0102030405060708, 1, 2, 3, 4, 5, 6, 7, 8),
		longThing(0xf8f9fafbfcfdfeff, 248, 249, 250, 251, 252, 253, 254, 255),
		hashThing(api.Hash{}),
		hashThing(each()),
		hashThing(full()),
		hashThing(api.Hash{31: 1}),
		textThing(nil),
		textThing([]byte{}),
		textThing([]byte{0}),
		textThing([]byte{7}),
		textThing([]byte{2, 1, 0}),
		textThing([]byte("\xff no text \x00")),
		textThing(run(127)),
		textThing(run(128)),
		textThing(run(254)),
		textThing(run(255)),
		textThing(make([]byte, 255)),
	}
}

// few tells one thing of each kind, the shortest and a longer text among them.
func few() []thing {
	return []thing{
		byteThing(3),
		numThing(0x01020304, 1, 2, 3, 4),
		longThing(0x0102030405060708, 1, 2, 3, 4, 5, 6, 7, 8),
		hashThing(each()),
		textThing(nil),
		textThing([]byte{9, 1, 4}),
	}
}

// rows tells all rows of up to n of those things.
func rows(of []thing, n int) [][]thing {
	out := [][]thing{nil}
	for from := 0; from < len(out); from++ {
		if len(out[from]) < n {
			for _, c := range of {
				out = append(out, append(slices.Clone(out[from]), c))
			}
		}
	}
	return out
}

// written tells the bytes that a row of things should have.
func written(row []thing) []byte {
	var out []byte
	for _, c := range row {
		out = append(out, c.want...)
	}
	return out
}

func names(row []thing) []string {
	var out []string
	for _, c := range row {
		out = append(out, c.name)
	}
	return out
}

// hold holds Left and End, which both are asked twice, for they change nothing.
func hold(t *testing.T, what any, r *Reader, left int, end api.Errno) {
	t.Helper()
	for _, when := range []string{"at first", "again"} {
		if got := r.Left(); got != left {
			t.Errorf("%v: Left %s: %d; want %d", what, when, got, left)
		}
		if got := r.End(); got != end {
			t.Errorf("%v: End %s: %v; want %v", what, when, got, end)
		}
	}
}

// atEnd is what End tells of so many bytes that are left, if nothing went wrong.
func atEnd(left int) api.Errno {
	if left > 0 {
		return api.ErrLong
	}
	return api.OK
}

// holdWrong holds that something went wrong: all that is read is 0 or none,
// and the first error stays, whatever else would go wrong.
func holdWrong(t *testing.T, what any, r *Reader, first api.Errno) {
	t.Helper()
	hold(t, what, r, 0, first)
	for range 2 {
		for _, c := range things() {
			if !c.zero(r) {
				t.Errorf("%v: %s isn't 0, or none", what, c.name)
			}
		}
		for _, most := range []int{0, 1, 255, 256, math.MaxInt} {
			if got := r.Text(most); len(got) != 0 {
				t.Errorf("%v: Text(%d): %v; want none", what, most, got)
			}
		}
		hold(t, what, r, 0, first)
	}
}

// P4.1: a zero writer has written nothing.
func TestZeroWriter(t *testing.T) {
	var w Writer
	for range 2 {
		if got := w.Bytes(); len(got) != 0 {
			t.Errorf("a zero writer's bytes: %v; want none", got)
		}
	}
	if got := new(Writer).Bytes(); len(got) != 0 {
		t.Errorf("a new writer's bytes: %v; want none", got)
	}
}

// P4.1: the chapter's example.
func TestExample(t *testing.T) {
	var w Writer
	w.Num(258)
	if !w.Text([]byte{7}) {
		t.Error("a text of one byte: false")
	}
	if got, want := w.Bytes(), []byte{0, 0, 1, 2, 1, 7}; !bytes.Equal(got, want) {
		t.Errorf("%v; want %v", got, want)
	}
}

// P4.1: each thing alone.
func TestEachThingIsWritten(t *testing.T) {
	for _, c := range things() {
		var w Writer
		c.write(&w)
		if got := w.Bytes(); !bytes.Equal(got, c.want) {
			t.Errorf("%s: %v; want %v", c.name, got, c.want)
		}
	}
}

// P4.1: each byte of a number, and of a digest, has its own place.
func TestEachByteHasItsPlace(t *testing.T) {
	for place := range 8 {
		for _, one := range []byte{1, 2, 127, 128, 255} {
			want := make([]byte, 8)
			want[place] = one
			var long, short Writer
			long.Long(uint64(one) << (8 * (7 - place)))
			if got := long.Bytes(); !bytes.Equal(got, want) {
				t.Errorf("Long: %v; want %v", got, want)
			}
			if place < 4 {
				short.Num(uint32(one) << (8 * (3 - place)))
				if got := short.Bytes(); !bytes.Equal(got, want[:4]) {
					t.Errorf("Num: %v; want %v", got, want[:4])
				}
			}
		}
	}
	for place := range 32 {
		var h api.Hash
		h[place] = 200
		var w Writer
		w.Hash(h)
		if got := w.Bytes(); !bytes.Equal(got, h[:]) {
			t.Errorf("Hash: %v; want %v", got, h)
		}
	}
}

// P4.1: all bytes are written as they are.
func TestAllBytesAreWritten(t *testing.T) {
	var w Writer
	var want []byte
	for n := range 256 {
		w.Byte(byte(n))
		want = append(want, byte(n))
		if got := w.Bytes(); !bytes.Equal(got, want) {
			t.Fatalf("behind %d: %v; want %v", n, got, want)
		}
	}
	w.Text(want[:255])
	if got := w.Bytes(); !bytes.Equal(got, slices.Concat(want, []byte{255}, want[:255])) {
		t.Errorf("a text of all bytes but the last: %v", got[256:])
	}
}

// P4.1: one behind the other, with Bytes asked between.
func TestThingsAreWrittenBehind(t *testing.T) {
	for _, all := range [][]thing{things(), slices.Repeat(things(), 20)} {
		var w Writer
		var want []byte
		for i, c := range all {
			c.write(&w)
			want = append(want, c.want...)
			if got := w.Bytes(); !bytes.Equal(got, want) {
				t.Fatalf("behind %d things, the last a %s: %d bytes; want %d", i+1, c.name, len(got), len(want))
			}
		}
	}
}

// P4.1: whichever thing comes first, second and third.
func TestWhateverOrderIsWritten(t *testing.T) {
	for _, row := range rows(few(), 3) {
		var w Writer
		for _, c := range row {
			c.write(&w)
		}
		if got := w.Bytes(); !bytes.Equal(got, written(row)) {
			t.Errorf("%v: %v; want %v", names(row), got, written(row))
		}
	}
}

// P4.1: texts of up to 255 bytes, and of more.
func TestTextsAboutTheBound(t *testing.T) {
	for _, n := range []int{0, 1, 2, 127, 128, 254, 255} {
		var w Writer
		w.Byte(9)
		text := run(n)
		if !w.Text(text) {
			t.Errorf("a text of %d bytes: false", n)
		}
		if got, want := w.Bytes(), append([]byte{9, byte(n)}, text...); !bytes.Equal(got, want) {
			t.Errorf("a text of %d bytes: %v; want %v", n, got, want)
		}
	}
	for _, n := range []int{256, 257, 258, 511, 512, 65536, 65537, 1 << 20} {
		var w Writer
		if w.Text(run(n)) || len(w.Bytes()) != 0 {
			t.Errorf("a text of %d bytes is written as the first thing", n)
		}
		w.Byte(9)
		if w.Text(run(n)) || !bytes.Equal(w.Bytes(), []byte{9}) {
			t.Errorf("a text of %d bytes is written behind", n)
		}
		if !w.Text([]byte{5}) || !bytes.Equal(w.Bytes(), []byte{9, 1, 5}) {
			t.Errorf("behind a text of %d bytes: %v; want 9 1 5", n, w.Bytes())
		}
	}
}

// P4.2: each thing of just enough bytes, and with one behind it.
func TestEachThingIsRead(t *testing.T) {
	for _, c := range things() {
		for behind := range 3 {
			r := New(append(slices.Clone(c.want), run(behind)...))
			hold(t, c.name, r, len(c.want)+behind, api.ErrLong)
			if !c.reads(r) {
				t.Errorf("%s of %v isn't what was written", c.name, c.want)
			}
			hold(t, c.name, r, behind, atEnd(behind))
			for i, want := range run(behind) {
				if got := r.Byte(); got != want {
					t.Errorf("byte %d behind a %s: %d; want %d", i, c.name, got, want)
				}
			}
			hold(t, c.name, r, 0, api.OK)
		}
	}
}

// P4.2: each thing of too few bytes, by one and by more.
func TestEachThingOfTooFew(t *testing.T) {
	for _, c := range things() {
		for cut := range len(c.want) {
			r := New(c.want[:cut])
			hold(t, c.name, r, cut, atEnd(cut))
			if !c.zero(r) {
				t.Errorf("%s of %v isn't 0, or none", c.name, c.want[:cut])
			}
			hold(t, c.name, r, 0, api.ErrShort)
		}
	}
}

// P4.2: a reader of no bytes.
func TestReaderOfNone(t *testing.T) {
	for _, none := range [][]byte{nil, {}} {
		hold(t, "no bytes", New(none), 0, api.OK)
		for _, c := range things() {
			r := New(none)
			if !c.zero(r) {
				t.Errorf("%s of no bytes isn't 0, or none", c.name)
			}
			holdWrong(t, c.name, r, api.ErrShort)
		}
	}
}

// P4.2: how long a text may be, and what goes wrong first.
func TestTextsOfMost(t *testing.T) {
	for _, c := range []struct {
		b    []byte
		most int
		want []byte
		left int
		end  api.Errno
	}{
		{[]byte{0}, 0, nil, 0, api.OK},
		{[]byte{0, 8}, 0, nil, 1, api.ErrLong},
		{[]byte{0}, 9, nil, 0, api.OK},
		{[]byte{1, 5}, 1, []byte{5}, 0, api.OK},
		{[]byte{1, 5, 6}, 1, []byte{5}, 1, api.ErrLong},
		{[]byte{2, 5, 6}, 2, []byte{5, 6}, 0, api.OK},
		{[]byte{2, 5, 6}, 3, []byte{5, 6}, 0, api.OK},
		{[]byte{2, 5, 6}, math.MaxInt, []byte{5, 6}, 0, api.OK},
		{[]byte{1, 5}, 0, nil, 0, api.ErrLong},    // one above most
		{[]byte{2, 5, 6}, 1, nil, 0, api.ErrLong}, // one above most
		{[]byte{2, 5, 6, 7}, 1, nil, 0, api.ErrLong},
		{[]byte{2, 5}, 1, nil, 0, api.ErrLong}, // above most, and too few: the first named
		{[]byte{2}, 1, nil, 0, api.ErrLong},
		{[]byte{255}, 254, nil, 0, api.ErrLong},
		{[]byte{128}, 127, nil, 0, api.ErrLong},
		{[]byte{2, 5}, 2, nil, 0, api.ErrShort}, // too few, by one
		{[]byte{2}, 2, nil, 0, api.ErrShort},
		{[]byte{1}, 1, nil, 0, api.ErrShort},
		{[]byte{255}, 255, nil, 0, api.ErrShort},
		{[]byte{255, 1}, math.MaxInt, nil, 0, api.ErrShort},
		{nil, 0, nil, 0, api.ErrShort}, // not even the byte that tells how many
		{nil, 9, nil, 0, api.ErrShort},
		{nil, math.MaxInt, nil, 0, api.ErrShort},
	} {
		r := New(c.b)
		if got := r.Text(c.most); !bytes.Equal(got, c.want) {
			t.Errorf("Text(%d) of %v: %v; want %v", c.most, c.b, got, c.want)
		}
		hold(t, c.b, r, c.left, c.end)
	}
}

// P4.2: about every length of a text, whatever is most.
func TestTextsOfEveryLength(t *testing.T) {
	for n := range 256 {
		b := append([]byte{byte(n)}, run(n)...)
		for _, most := range []int{n - 1, n, n + 1} {
			if most < 0 {
				continue
			}
			for _, short := range []bool{false, true} {
				if short && n == 0 {
					continue
				}
				holdText(t, b, most, short)
			}
		}
	}
}

// holdText reads a text of all of b, or of all but its last byte.
func holdText(t *testing.T, b []byte, most int, short bool) {
	t.Helper()
	n, end, want := int(b[0]), api.OK, b[1:]
	if short {
		b, end, want = b[:len(b)-1], api.ErrShort, nil
	}
	if n > most {
		end, want = api.ErrLong, nil
	}
	r := New(b)
	if got := r.Text(most); !bytes.Equal(got, want) {
		t.Errorf("Text(%d) of %d bytes of %d: %v; want %v", most, len(b)-1, n, got, want)
	}
	hold(t, n, r, 0, end)
}

// P4.2: a most below 0, of which the chapter doesn't speak, ends without a panic.
func TestMostBelowZero(t *testing.T) {
	for _, most := range []int{-1, math.MinInt} {
		r := New([]byte{0, 1})
		if got := r.Text(most); len(got) != 0 {
			t.Errorf("Text(%d): %v; want none", most, got)
		}
		holdWrong(t, most, r, api.ErrLong)
		r = New(nil)
		r.Text(most)
		holdWrong(t, most, r, api.ErrShort)
	}
}

// P4.2: the first thing that goes wrong stays, though there were bytes for what is read behind it.
func TestTheFirstWrongStays(t *testing.T) {
	for i, c := range []struct {
		b     []byte
		read  func(r *Reader)
		first api.Errno
	}{
		{nil, func(r *Reader) { r.Byte() }, api.ErrShort},
		{run(3), func(r *Reader) { r.Num() }, api.ErrShort},
		{run(7), func(r *Reader) { r.Long() }, api.ErrShort},
		{run(31), func(r *Reader) { r.Hash() }, api.ErrShort},
		{nil, func(r *Reader) { r.Text(255) }, api.ErrShort},
		{append([]byte{40}, run(39)...), func(r *Reader) { r.Text(40) }, api.ErrShort},
		{append([]byte{40}, run(400)...), func(r *Reader) { r.Text(39) }, api.ErrLong},
		{append([]byte{1}, run(400)...), func(r *Reader) { r.Text(0) }, api.ErrLong},
		{[]byte{255}, func(r *Reader) { r.Text(254) }, api.ErrLong},
		{run(31), func(r *Reader) { r.Num(); r.Long(); r.Hash() }, api.ErrShort},
		{run(15), func(r *Reader) { r.Long(); r.Long(); r.Text(0) }, api.ErrShort},
		{[]byte{1, 9, 3, 1, 2, 3}, func(r *Reader) { r.Text(1); r.Text(2); r.Long() }, api.ErrLong},
		{run(5), func(r *Reader) { r.Num(); r.Num(); r.Byte() }, api.ErrShort},
	} {
		r := New(c.b)
		c.read(r)
		holdWrong(t, i, r, c.first)
	}
}

// P4.2: nothing else is read in place of what there are too few bytes for.
func TestNothingIsTakenBehindAWrong(t *testing.T) {
	for _, c := range few() {
		r := New(slices.Concat([]byte{200}, run(300)))
		r.Text(199)
		if !c.zero(r) {
			t.Errorf("%s is taken, though something went wrong", c.name)
		}
		hold(t, c.name, r, 0, api.ErrLong)
	}
	r := New([]byte{1, 2, 3})
	if r.Num() != 0 || r.Byte() != 0 || r.Text(3) != nil {
		t.Error("bytes that were too few for a number are read as others")
	}
	hold(t, "three bytes", r, 0, api.ErrShort)
}

// P4.2: Left and End ahead of, between and behind what is read.
func TestLeftAndEndBetween(t *testing.T) {
	all := things()
	b := written(all)
	r := New(b)
	left := len(b)
	hold(t, "ahead", r, left, api.ErrLong)
	for i, c := range all {
		if !c.reads(r) {
			t.Fatalf("thing %d, a %s, isn't what was written", i, c.name)
		}
		left -= len(c.want)
		hold(t, i, r, left, atEnd(left))
	}
	hold(t, "behind", r, 0, api.OK)
	// End at the end says what is so far: more may be asked, and goes wrong.
	r.Byte()
	hold(t, "behind the end", r, 0, api.ErrShort)
}

// P4.3: what is written is read, in whatever order of things.
func TestWhatIsWrittenIsRead(t *testing.T) {
	for _, row := range append(rows(few(), 4), rows(things(), 2)...) {
		var w Writer
		for _, c := range row {
			c.write(&w)
		}
		r := New(w.Bytes())
		for i, c := range row {
			if !c.reads(r) {
				t.Fatalf("%v: thing %d isn't what was written", names(row), i)
			}
		}
		hold(t, names(row), r, 0, api.OK)
	}
}

// P4.3: the same bytes, cut anywhere, go wrong: what stands whole ahead of the
// cut is read, and all behind it is 0, or none.
func TestCutBytesGoWrong(t *testing.T) {
	for _, row := range append(rows(few(), 3), things(), slices.Concat(few(), things())) {
		var w Writer
		for _, c := range row {
			c.write(&w)
		}
		b := w.Bytes()
		for cut := range len(b) {
			holdCut(t, row, b, cut)
		}
	}
}

func holdCut(t *testing.T, row []thing, b []byte, cut int) {
	t.Helper()
	r := New(b[:cut])
	left := cut
	wrong := false
	for i, c := range row {
		wrong = wrong || len(c.want) > left
		if wrong {
			if !c.zero(r) {
				t.Fatalf("%v, cut to %d: thing %d isn't 0, or none", names(row), cut, i)
			}
			continue
		}
		if !c.reads(r) {
			t.Fatalf("%v, cut to %d: thing %d isn't what was written", names(row), cut, i)
		}
		left -= len(c.want)
	}
	hold(t, cut, r, 0, api.ErrShort)
}

// P4.3: bytes behind what was written are told by End.
func TestMoreBytesAreTold(t *testing.T) {
	for _, row := range rows(few(), 2) {
		for more := 1; more < 4; more++ {
			r := New(append(written(row), run(more)...))
			for _, c := range row {
				c.reads(r)
			}
			hold(t, names(row), r, more, api.ErrLong)
		}
	}
}

// P4.3: bytes that are read whole, as texts, are written again as they were: so
// no two rows of texts have the same bytes.
func TestBytesComeBack(t *testing.T) {
	for a := range 4 {
		for b := range 4 {
			for c := range 4 {
				was := []byte{byte(a), byte(b), byte(c)}
				r := New(was)
				var w Writer
				for r.Left() > 0 {
					if text := r.Text(255); r.End() != api.ErrShort {
						w.Text(text)
					}
				}
				if r.End() == api.OK && !bytes.Equal(w.Bytes(), was) {
					t.Errorf("%v is written again as %v", was, w.Bytes())
				}
			}
		}
	}
}

// R3: what was handed to a writer isn't changed, and may be changed later.
func TestWriterSharesNoArgument(t *testing.T) {
	for _, n := range []int{1, 5, 255} {
		var w Writer
		text, h := run(n), each()
		handed := append(text, 77)[:n] // with room behind it
		w.Text(handed)
		w.Hash(h)
		w.Long(math.MaxUint64)
		if !bytes.Equal(handed, text) || handed[:n+1][n] != 77 {
			t.Errorf("a text of %d bytes was changed", n)
		}
		want := slices.Concat([]byte{byte(n)}, run(n), h[:], bytes.Repeat([]byte{255}, 8))
		clear(handed)
		h = api.Hash{}
		if got := w.Bytes(); !bytes.Equal(got, want) {
			t.Errorf("a text of %d bytes is shared with who handed it in", n)
		}
	}
}

// R3: what a writer answered may be written to, and stays when more is written.
func TestWriterSharesNoAnswer(t *testing.T) {
	var w Writer
	var want []byte
	for _, c := range slices.Concat(few(), things()) {
		c.write(&w)
		want = append(want, c.want...)
		first, second := w.Bytes(), w.Bytes()
		clear(first[:cap(first)])
		_ = append(first, 1, 2, 3)
		if !bytes.Equal(second, want) || !bytes.Equal(w.Bytes(), want) {
			t.Fatalf("behind a %s: what was answered is shared", c.name)
		}
		w.Byte(5)
		if !bytes.Equal(second, want) {
			t.Fatalf("behind a %s: an answer changed with what was written later", c.name)
		}
		want = append(want, 5)
	}
}

// R3: the bytes that a reader reads aren't changed, and may be changed later.
func TestReaderSharesNoArgument(t *testing.T) {
	all := things()
	handed := written(all)
	was := slices.Clone(handed)
	r := New(handed)
	for _, c := range all {
		c.reads(r)
	}
	if !bytes.Equal(handed, was) {
		t.Error("the bytes that were handed in were changed by reading")
	}
	r = New(handed)
	clear(handed)
	for i, c := range all {
		if !c.reads(r) {
			t.Fatalf("thing %d, a %s, changed with the bytes that were handed in", i, c.name)
		}
		handed[i] = 99
	}
	hold(t, "all", r, 0, api.OK)
}

// R3: what a reader answered may be written to, up to all the room it has, and
// changes neither what is read later, nor what was handed in, nor another answer.
func TestReaderSharesNoAnswer(t *testing.T) {
	handed := []byte{2, 5, 6, 3, 7, 8, 9, 0, 1, 4}
	was := slices.Clone(handed)
	r := New(handed)
	var texts [][]byte
	for _, want := range [][]byte{{5, 6}, {7, 8, 9}, nil, {4}} {
		got := r.Text(3)
		if !bytes.Equal(got, want) {
			t.Errorf("%v; want %v", got, want)
		}
		texts = append(texts, slices.Clone(want))
		clear(got[:cap(got)])
		_ = append(got, 100, 101, 102)
		if !bytes.Equal(handed, was) {
			t.Error("an answer is shared with what was handed in")
		}
	}
	hold(t, texts, r, 0, api.OK)
	r, other := New(handed), New(handed)
	first := r.Text(3)
	second := r.Text(3)
	clear(second[:cap(second)])
	if !bytes.Equal(first, []byte{5, 6}) || !bytes.Equal(other.Text(3), []byte{5, 6}) {
		t.Error("two answers share bytes")
	}
	r = New(handed)
	kept := r.left
	text := r.Text(3)
	clear(text)
	if !bytes.Equal(kept, was) {
		t.Error("an answer is shared with what a reader was made of")
	}
}

// R3: what is taken ends where the next thing begins.
func TestTakenHasNoRoomBehindIt(t *testing.T) {
	for n := range 9 {
		r := New(run(9))
		if taken := r.take(n); len(taken) != n || cap(taken) != n {
			t.Errorf("%d bytes are taken with room for %d", len(taken), cap(taken))
		}
	}
}

// R5: nothing is kept from one writer to another, nor from one reader to another.
func TestNothingIsKept(t *testing.T) {
	var a, b Writer
	a.Num(1)
	b.Byte(7)
	a.Byte(2)
	if !bytes.Equal(a.Bytes(), []byte{0, 0, 0, 1, 2}) || !bytes.Equal(b.Bytes(), []byte{7}) {
		t.Errorf("two writers: %v, %v", a.Bytes(), b.Bytes())
	}
	wrong, right := New([]byte{1}), New([]byte{0, 0, 0, 1, 2})
	wrong.Num()
	hold(t, "one that went wrong", wrong, 0, api.ErrShort)
	hold(t, "another", right, 5, api.ErrLong)
	if right.Num() != 1 || right.Byte() != 2 {
		t.Error("a reader hangs on another one")
	}
	hold(t, "another", right, 0, api.OK)
	hold(t, "one that went wrong", wrong, 0, api.ErrShort)
}

// R1: many bytes are written and read in time that grows as they do.
func TestManyThings(t *testing.T) {
	var w Writer
	const count = 1 << 18
	for i := range count {
		w.Long(uint64(i))
	}
	r := New(w.Bytes())
	for i := range count {
		if got := r.Long(); got != uint64(i) {
			t.Fatalf("number %d: %d", i, got)
		}
	}
	hold(t, "many", r, 0, api.OK)
}
