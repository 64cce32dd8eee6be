package tag

import (
	"bytes"
	"crypto/sha256"
	"encoding/hex"
	"math"
	"slices"
	"strings"
	"testing"

	"almagest/api"
	"almagest/sha"
)

// thing is what has an image.
type thing struct {
	name  string
	parts [][]byte
}

// run tells n bytes, none of which is like those about it.
func run(n int) []byte {
	out := make([]byte, n)
	for i := range out {
		out[i] = byte(7*i + 3)
	}
	return out
}

// many tells n parts of some bytes each, none among them.
func many(n int) [][]byte {
	out := make([][]byte, n)
	for i := range out {
		out[i] = run(i % 5)
	}
	return out
}

func inSixteens(h api.Hash) string { return hex.EncodeToString(h[:]) }

// edges tells things about the bounds, all of which have an image.
func edges() []thing {
	return []thing{
		{"", nil},
		{"", [][]byte{}},
		{"", [][]byte{nil}},
		{"", [][]byte{{}, nil, {}}},
		{"a", nil},
		{"a", [][]byte{{1, 2}}},
		{"node", [][]byte{{1}, make([]byte, 32), bytes.Repeat([]byte{255}, 32)}},
		{"\x00", [][]byte{{0}, {0, 0}, {}}},
		{"\xff\xfe no text", [][]byte{{255}}},
		{"héllo, 世界", [][]byte{[]byte("世界")}},
		{strings.Repeat("n", 127), many(127)},
		{strings.Repeat("n", 128), many(128)},
		{strings.Repeat("n", 254), many(254)},
		{strings.Repeat("n", 255), many(255)},
		{strings.Repeat("n", 255), nil},
		{"", make([][]byte, 255)},
		{"x", [][]byte{run(127), run(128), run(255)}},
		{"x", [][]byte{run(256)}},
		{"x", [][]byte{run(257), run(65535), run(65536), run(65537)}},
	}
}

// tooLong tells things that have no image.
func tooLong() []thing {
	return []thing{
		{strings.Repeat("n", 256), nil},
		{strings.Repeat("n", 256), [][]byte{{1}}},
		{strings.Repeat("n", 257), nil},
		{strings.Repeat("n", 512), nil},
		{strings.Repeat("n", 65536), nil},
		{strings.Repeat("é", 128), nil}, // 128 letters, but 256 bytes
		{"", make([][]byte, 256)},
		{"a", many(256)},
		{"a", many(257)},
		{"a", many(512)},
		{strings.Repeat("n", 255), many(256)},
		{strings.Repeat("n", 256), many(255)},
		{strings.Repeat("n", 256), many(256)},
	}
}

// imageOf tells the image of a thing that has one.
func imageOf(t *testing.T, c thing) []byte {
	t.Helper()
	image, e := Image(c.name, c.parts...)
	if e != api.OK {
		t.Fatalf("%d bytes of name, %d parts: %v", len(c.name), len(c.parts), e)
	}
	return image
}

// readNumber tells a number of n bytes, the highest first, and what stands behind it.
func readNumber(b []byte, n int) (int, []byte) {
	number := 0
	for _, one := range b[:n] {
		number = number*256 + int(one)
	}
	return number, b[n:]
}

// read takes an image apart by the chapter's words, and tells what is left behind it.
func read(b []byte) (thing, []byte) {
	var out thing
	n, b := readNumber(b, 1)
	out.name, b = string(b[:n]), b[n:]
	count, b := readNumber(b, 1)
	for range count {
		n, b = readNumber(b, 4)
		out.parts, b = append(out.parts, b[:n]), b[n:]
	}
	return out, b
}

// same tells whether two things are alike; an empty part and none are one.
func same(a, b thing) bool {
	return a.name == b.name && slices.EqualFunc(a.parts, b.parts, bytes.Equal)
}

// P3.1: images, written out.
func TestImageWrittenOut(t *testing.T) {
	for _, c := range []struct {
		thing
		want []byte
	}{
		{thing{"a", [][]byte{{1, 2}}}, []byte{1, 97, 1, 0, 0, 0, 2, 1, 2}},
		{thing{"", nil}, []byte{0, 0}},
		{thing{"", [][]byte{}}, []byte{0, 0}},
		{thing{"ab", nil}, []byte{2, 97, 98, 0}},
		{thing{"", [][]byte{nil}}, []byte{0, 1, 0, 0, 0, 0}},
		{thing{"", [][]byte{{}}}, []byte{0, 1, 0, 0, 0, 0}},
		{thing{"", [][]byte{nil, {}}}, []byte{0, 2, 0, 0, 0, 0, 0, 0, 0, 0}},
		{thing{"", [][]byte{{9}}}, []byte{0, 1, 0, 0, 0, 1, 9}},
		{thing{"x", [][]byte{{3, 2, 1}, nil, {0}}}, []byte{1, 120, 3, 0, 0, 0, 3, 3, 2, 1, 0, 0, 0, 0, 0, 0, 0, 1, 0}},
		{thing{"é", [][]byte{{5}}}, []byte{2, 195, 169, 1, 0, 0, 0, 1, 5}},
		{thing{"\xff\x00", nil}, []byte{2, 255, 0, 0}},
	} {
		got, e := Image(c.name, c.parts...)
		if e != api.OK || !bytes.Equal(got, c.want) {
			t.Errorf("Image(%q, %v): %v, %v; want %v", c.name, c.parts, got, e, c.want)
		}
	}
}

// P3.1: how many bytes a part has takes four, the highest first.
func TestImageOfLengthsOfMoreBytes(t *testing.T) {
	for _, c := range []struct {
		n    int
		want []byte
	}{
		{127, []byte{0, 0, 0, 127}},
		{128, []byte{0, 0, 0, 128}},
		{255, []byte{0, 0, 0, 255}},
		{256, []byte{0, 0, 1, 0}},
		{258, []byte{0, 0, 1, 2}},
		{65535, []byte{0, 0, 255, 255}},
		{65536, []byte{0, 1, 0, 0}},
		{0x010203, []byte{0, 1, 2, 3}},
		{1 << 24, []byte{1, 0, 0, 0}},
		{0x01020304, []byte{1, 2, 3, 4}},
	} {
		part := run(c.n)
		got := imageOf(t, thing{"xy", [][]byte{{8}, part, {9}}})
		want := slices.Concat([]byte{2, 'x', 'y', 3, 0, 0, 0, 1, 8}, c.want, part, []byte{0, 0, 0, 1, 9})
		if !bytes.Equal(got, want) {
			t.Errorf("a part of %d bytes: the image has %d bytes and begins %v; want %d, %v",
				c.n, len(got), got[:13], len(want), want[:13])
		}
	}
}

// P3.1: up to 255 bytes of name and up to 255 parts have an image.
func TestImageAtTheBounds(t *testing.T) {
	for _, n := range []int{254, 255} {
		got := imageOf(t, thing{strings.Repeat("n", n), make([][]byte, n)})
		want := append([]byte{byte(n)}, bytes.Repeat([]byte("n"), n)...)
		want = append(want, byte(n))
		want = append(want, make([]byte, 4*n)...)
		if !bytes.Equal(got, want) {
			t.Errorf("%d bytes of name, as many parts: %v; want %v", n, got, want)
		}
	}
}

// P3.1: more than 255 of either are too long: no image, and the zero digest.
func TestTooLong(t *testing.T) {
	for _, c := range tooLong() {
		if image, e := Image(c.name, c.parts...); e != api.ErrLong || image != nil {
			t.Errorf("Image of %d bytes of name, %d parts: %d bytes, %v; want none, %v",
				len(c.name), len(c.parts), len(image), e, api.ErrLong)
		}
		if got := Of(c.name, c.parts...); got != (api.Hash{}) {
			t.Errorf("Of %d bytes of name, %d parts: %s; want the zero one", len(c.name), len(c.parts), inSixteens(got))
		}
	}
}

// P3.1: digests that are known, from outside of this program.
func TestOfKnownDigests(t *testing.T) {
	for _, c := range []struct {
		thing
		want string
	}{
		{thing{"a", [][]byte{{1, 2}}}, "5edc8ed69fa7bf5f5e48132b4d0d9c7ea233a084c8da612687fc81efb1ff0e3f"},
		{thing{"", nil}, "96a296d224f285c67bee93c30f8a309157f0daa35dc5b87e410b78630a09cfc7"},
		{thing{"empty", nil}, "1d500aea373c060d0b268da9d2892b865951095c460880717e8259db68d294df"},
		{
			thing{"node", [][]byte{{1}, make([]byte, 32), bytes.Repeat([]byte{255}, 32)}},
			"7691ee5abbc646d294599392e702025b46f8e64c9e92e031c61a5a46c838e7d8",
		},
	} {
		if got := inSixteens(Of(c.name, c.parts...)); got != c.want {
			t.Errorf("Of(%q, %v): %s; want %s", c.name, c.parts, got, c.want)
		}
	}
}

// P3.1: the digest is sha.Of of the image, and the library's own of it.
func TestOfIsTheDigestOfTheImage(t *testing.T) {
	for _, c := range edges() {
		image := imageOf(t, c)
		got := Of(c.name, c.parts...)
		if got != sha.Of(image) || got != sha256.Sum256(image) {
			t.Errorf("Of(%.9q, %d parts): %s; want %s", c.name, len(c.parts), inSixteens(got), inSixteens(sha.Of(image)))
		}
	}
}

// P3.3: what an image was made of is read from it, and nothing is left behind it.
func TestImagesAreReadBack(t *testing.T) {
	for _, c := range edges() {
		got, left := read(imageOf(t, c))
		if !same(got, c) || len(left) > 0 {
			t.Errorf("the image of %.9q and %d parts reads as %.9q and %d parts, with %d bytes behind it",
				c.name, len(c.parts), got.name, len(got.parts), len(left))
		}
	}
}

// P3.3: things that would be the same, if a length or a count were left out.
func TestThingsThatRunTogether(t *testing.T) {
	for _, c := range []struct {
		why  string
		a, b thing
	}{
		{"a name's end", thing{"ab", [][]byte{{'c'}}}, thing{"a", [][]byte{{'b', 'c'}}}},
		{"a name, or a part", thing{"a", nil}, thing{"", [][]byte{{'a'}}}},
		{"a part's end", thing{"", [][]byte{{1, 2}, {3}}}, thing{"", [][]byte{{1}, {2, 3}}}},
		{"one part, or two", thing{"", [][]byte{{1, 2}}}, thing{"", [][]byte{{1}, {2}}}},
		{"an empty part behind", thing{"a", [][]byte{{1}}}, thing{"a", [][]byte{{1}, {}}}},
		{"an empty part ahead", thing{"a", [][]byte{{1}, {}}}, thing{"a", [][]byte{{}, {1}}}},
		{"no part, or an empty one", thing{"a", nil}, thing{"a", [][]byte{nil}}},
		{"one empty part, or two", thing{"a", [][]byte{nil}}, thing{"a", [][]byte{nil, nil}}},
		{"the order of parts", thing{"a", [][]byte{{1}, {2}}}, thing{"a", [][]byte{{2}, {1}}}},
		{"zeros, or none", thing{"a", [][]byte{{0}}}, thing{"a", [][]byte{{0, 0}}}},
		{"a name of zeros", thing{"\x00", nil}, thing{"\x00\x00", nil}},
		{"bytes like a count", thing{"a\x01", nil}, thing{"a", [][]byte{nil}}},
		{
			"bytes like a count and lengths",
			thing{"a", [][]byte{{0, 0, 0, 1, 5}}},
			thing{"a", [][]byte{nil, {5}}},
		},
		{
			"lengths that are one in their lowest byte",
			thing{"a", [][]byte{make([]byte, 256), {}}},
			thing{"a", [][]byte{{}, make([]byte, 256)}},
		},
		{
			"a part that holds the other's image behind its head",
			thing{"", [][]byte{{0, 0, 0, 0}}},
			thing{"", [][]byte{nil, nil}},
		},
	} {
		if bytes.Equal(imageOf(t, c.a), imageOf(t, c.b)) {
			t.Errorf("%s: %v and %v have one image", c.why, c.a, c.b)
		}
		if Of(c.a.name, c.a.parts...) == Of(c.b.name, c.b.parts...) {
			t.Errorf("%s: %v and %v have one digest", c.why, c.a, c.b)
		}
	}
}

// rows tells all rows of up to n bytes, of two that lengths are made of, too.
func rows(n int) [][]byte {
	out := [][]byte{{}}
	for from := 0; from < len(out); from++ {
		if len(out[from]) < n {
			out = append(out, append(slices.Clone(out[from]), 0), append(slices.Clone(out[from]), 1))
		}
	}
	return out
}

// P3.3: of all small things, no two have one image, and none begins with another's.
func TestAllSmallThingsAreUnlike(t *testing.T) {
	var images []string
	for _, name := range rows(2) {
		lists := [][][]byte{nil}
		for _, a := range rows(2) {
			lists = append(lists, [][]byte{a})
			for _, b := range rows(2) {
				lists = append(lists, [][]byte{a, b})
				for _, c := range rows(1) {
					lists = append(lists, [][]byte{a, b, c})
				}
			}
		}
		for _, parts := range lists {
			images = append(images, string(imageOf(t, thing{string(name), parts})))
		}
	}
	slices.Sort(images)
	for i := 1; i < len(images); i++ {
		if strings.HasPrefix(images[i], images[i-1]) {
			t.Errorf("%v begins with another image, %v", []byte(images[i]), []byte(images[i-1]))
		}
	}
}

// holdMemo asks a memo, and holds its answer against Of's, and what it knows then.
func holdMemo(t *testing.T, m *Memo, name string, h api.Hash, known int) {
	t.Helper()
	if got, want := m.Of(name, h), Of(name, h[:]); got != want {
		t.Errorf("a memo's Of(%.9q, %v): %s; want %s", name, h[:2], inSixteens(got), inSixteens(want))
	}
	for _, when := range []string{"at first", "again"} {
		if got := m.Known(); got != known {
			t.Errorf("behind Of(%.9q, %v): Known %s: %d; want %d", name, h[:2], when, got, known)
		}
	}
}

// P3.2: a new memo knows nothing, whatever its room is, and whatever others know.
func TestNewMemoKnowsNothing(t *testing.T) {
	full := NewMemo(1)
	holdMemo(t, full, "a", api.Hash{1}, 1)
	for _, room := range []int{0, 1, 2, 1000, math.MaxInt32, math.MaxInt} {
		m := NewMemo(room)
		if got := m.Known(); got != 0 {
			t.Errorf("room for %d: Known %d; want 0", room, got)
		}
		holdMemo(t, m, "a", api.Hash{1}, min(room, 1))
	}
	holdMemo(t, full, "a", api.Hash{1}, 1)
}

// P3.2: digests that are known, from outside of this program.
func TestMemoKnownDigests(t *testing.T) {
	for _, c := range []struct {
		name string
		h    api.Hash
		want string
	}{
		{"a", api.Hash{1}, "19e956e6a602bc8e8abac5cc2fb26665b6d317b3748ea2afc8e5b2d51751123c"},
		{"", api.Hash{}, "01bb9bc77f77b7fffcb6af12cc76da04a2d7c8bca1f194cf057d1218d01f5eb8"},
	} {
		m := NewMemo(1)
		for _, when := range []string{"at first", "again"} {
			if got := inSixteens(m.Of(c.name, c.h)); got != c.want {
				t.Errorf("a memo's Of(%q, %v) %s: %s; want %s", c.name, c.h[:2], when, got, c.want)
			}
		}
	}
}

// P3.2: a memo without room knows nothing, and answers all the same.
func TestMemoWithRoomForNone(t *testing.T) {
	m := NewMemo(0)
	for i := range 5 {
		holdMemo(t, m, "a", api.Hash{byte(i / 2)}, 0)
	}
}

// P3.2: what came first is known; what came behind the last room isn't, though it is answered.
func TestMemoWithRoomForSome(t *testing.T) {
	m := NewMemo(3)
	for _, c := range []struct {
		name  string
		h     api.Hash
		known int
	}{
		{"a", api.Hash{1}, 1},
		{"a", api.Hash{1}, 1}, // it knew it
		{"b", api.Hash{1}, 2}, // another name
		{"b", api.Hash{2}, 3}, // another part
		{"c", api.Hash{3}, 3}, // no room left
		{"c", api.Hash{3}, 3},
		{"a", api.Hash{1}, 3}, // still known
		{"b", api.Hash{2}, 3},
		{"a", api.Hash{2}, 3},
		{"", api.Hash{}, 3},
	} {
		holdMemo(t, m, c.name, c.h, c.known)
	}
	holdKept(t, m, key{"a", api.Hash{1}}, key{"b", api.Hash{1}}, key{"b", api.Hash{2}})
}

// holdKept holds what a memo keeps against the things that it should know.
func holdKept(t *testing.T, m *Memo, want ...key) {
	t.Helper()
	if len(m.known) != len(want) {
		t.Errorf("%d things are kept; want %d", len(m.known), len(want))
	}
	for _, k := range want {
		digest, is := m.known[k]
		if !is || digest != Of(k.name, k.part[:]) {
			t.Errorf("of %.9q, %v: %s, %t is kept", k.name, k.part[:2], inSixteens(digest), is)
		}
	}
}

// P3.2: with room for more than is asked, all that is asked is known, once.
func TestMemoWithRoomForMore(t *testing.T) {
	for _, room := range []int{20, 21, 1000, math.MaxInt} {
		m := NewMemo(room)
		var want []key
		for i := range 20 {
			name, h := strings.Repeat("n", i/4), api.Hash{31: byte(i)}
			want = append(want, key{name, h})
			holdMemo(t, m, name, h, i+1)
			holdMemo(t, m, name, h, i+1)
		}
		for _, k := range want {
			holdMemo(t, m, k.name, k.part, 20)
		}
		holdKept(t, m, want...)
	}
}

// P3.2: room for one more is room for one more, at every size.
func TestMemoFillsToItsRoom(t *testing.T) {
	for room := range 12 {
		m := NewMemo(room)
		for i := range 20 {
			holdMemo(t, m, "a", api.Hash{byte(i)}, min(i+1, room))
		}
		for i := range 20 {
			holdMemo(t, m, "a", api.Hash{byte(i)}, room)
		}
	}
}

// P3.2: every byte of name and part tells things apart.
func TestMemoTellsThingsApart(t *testing.T) {
	m := NewMemo(100)
	holdMemo(t, m, "name", api.Hash{}, 1)
	for i := range 32 {
		var h api.Hash
		h[i] = 1
		holdMemo(t, m, "name", h, i+2)
	}
	for i, name := range []string{"", "nam", "name\x00", "names", "mane", "Name", "\x00name", "世界"} {
		holdMemo(t, m, name, api.Hash{}, i+34)
	}
}

// P3.2, P3.3: a name of 255 bytes has a digest; one of 256 has the zero one,
// and the memo knows that as well as any other.
func TestMemoOfLongNames(t *testing.T) {
	long, longer := strings.Repeat("n", 255), strings.Repeat("n", 256)
	m := NewMemo(2)
	holdMemo(t, m, long, api.Hash{1}, 1)
	for _, when := range []string{"at first", "again"} {
		if got := m.Of(longer, api.Hash{1}); got != (api.Hash{}) {
			t.Errorf("256 bytes of name, %s: %s; want the zero one", when, inSixteens(got))
		}
		if got := m.Known(); got != 2 {
			t.Errorf("256 bytes of name, %s: Known %d; want 2", when, got)
		}
	}
	if got := m.Of(long, api.Hash{1}); got == (api.Hash{}) {
		t.Error("255 bytes of name: the zero digest")
	}
	holdMemo(t, NewMemo(0), longer, api.Hash{1}, 0)
}

// P3.3: a memo answers as Of does, in whatever order it is asked.
func TestMemoAnswersAsOf(t *testing.T) {
	for room := range 7 {
		m := NewMemo(room)
		seen := map[key]bool{}
		for i := range 200 {
			k := key{strings.Repeat("n", i*i%3), api.Hash{5: byte(i * 7 % 11)}}
			seen[k] = true
			holdMemo(t, m, k.name, k.part, min(room, len(seen)))
		}
	}
}

// P3.2, R5: a memo is its own; another one's things aren't known to it.
func TestMemosShareNothing(t *testing.T) {
	one, other := NewMemo(3), NewMemo(3)
	holdMemo(t, one, "a", api.Hash{1}, 1)
	holdMemo(t, one, "b", api.Hash{1}, 2)
	holdMemo(t, other, "a", api.Hash{1}, 1)
	holdMemo(t, one, "c", api.Hash{1}, 3)
	holdMemo(t, other, "d", api.Hash{1}, 2)
	holdKept(t, one, key{"a", api.Hash{1}}, key{"b", api.Hash{1}}, key{"c", api.Hash{1}})
	holdKept(t, other, key{"a", api.Hash{1}}, key{"d", api.Hash{1}})
}

// R3: a memo keeps neither what it was asked by nor what it answered, but copies.
func TestMemoKeepsCopies(t *testing.T) {
	m := NewMemo(1)
	h := api.Hash{1, 2, 3}
	answer := m.Of("a", h)
	clear(h[:])
	clear(answer[:])
	holdMemo(t, m, "a", api.Hash{1, 2, 3}, 1)
	holdMemo(t, m, "a", api.Hash{}, 1)
}

// R3: what is handed in stays as it was, also behind its end.
func TestWhatIsHandedInStays(t *testing.T) {
	row := run(300)
	parts := [][]byte{row[:0], row[5:9], nil, row[9:9], row[:270], run(3)}
	before := slices.Clone(parts)
	handed := parts[:5]
	image := imageOf(t, thing{"a", handed})
	Of("a", handed...)
	clear(image[:cap(image)])
	if !bytes.Equal(row, run(300)) {
		t.Error("bytes that were handed in were changed")
	}
	for i := range before {
		if !bytes.Equal(parts[i], before[i]) || (parts[i] == nil) != (before[i] == nil) {
			t.Errorf("part %d was changed in the list that was handed in", i)
		}
	}
}

// R3: an image is new memory: what was handed in may be changed later, and
// another image may be written to.
func TestImagesShareNothing(t *testing.T) {
	for _, c := range edges() {
		var handed [][]byte
		for _, part := range c.parts {
			handed = append(handed, slices.Clone(part))
		}
		image, other := imageOf(t, thing{c.name, handed}), imageOf(t, c)
		for i, part := range handed {
			clear(part)
			handed[i] = []byte("another")
		}
		if !bytes.Equal(image, other) {
			t.Errorf("%.9q, %d parts: an image changed with what was handed in", c.name, len(c.parts))
		}
		want := slices.Clone(image)
		clear(other[:cap(other)])
		if !bytes.Equal(image, want) {
			t.Errorf("%.9q, %d parts: an image changed with another one", c.name, len(c.parts))
		}
	}
}

// R3, R4, R5: nothing is kept of earlier calls: changed bytes have their own
// image, and the same ones the same.
func TestTheSameAgain(t *testing.T) {
	part := run(40)
	first, image := Of("a", part), imageOf(t, thing{"a", [][]byte{part}})
	clear(part)
	if Of("a", part) == first || bytes.Equal(imageOf(t, thing{"a", [][]byte{part}}), image) {
		t.Error("changed bytes have the digest or the image of what they were")
	}
	copy(part, run(40))
	if Of("a", part) != first || !bytes.Equal(imageOf(t, thing{"a", [][]byte{part}}), image) {
		t.Error("the same bytes have another digest or image than at first")
	}
}
