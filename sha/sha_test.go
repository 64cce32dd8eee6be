package sha

import (
	"bytes"
	"crypto/sha256"
	"encoding/hex"
	"strings"
	"testing"

	"almagest/api"
)

// run tells n bytes, none of which is like those about it.
func run(n int) []byte {
	out := make([]byte, n)
	for i := range out {
		out[i] = byte(7*i + 3)
	}
	return out
}

// edges tells how many bytes end a block, or end it but for the ending.
func edges() []int {
	return []int{0, 1, 54, 55, 56, 57, 63, 64, 65, 118, 119, 120, 121, 127, 128, 129, 183, 184, 191, 192, 193}
}

// exact tells the digest by the library's own way.
func exact(b []byte) api.Hash { return sha256.Sum256(b) }

func inSixteens(h api.Hash) string { return hex.EncodeToString(h[:]) }

func written(parts ...[]byte) *Hasher {
	h := New()
	for _, part := range parts {
		h.Write(part)
	}
	return h
}

// holdHasher asks for all that a hasher tells, twice, as nothing changes by it.
func holdHasher(t *testing.T, what string, h *Hasher, all []byte) {
	t.Helper()
	want := exact(all)
	for _, when := range []string{"at first", "again"} {
		if got := h.Sum(); got != want {
			t.Errorf("%s: Sum %s: %s; want %s", what, when, inSixteens(got), inSixteens(want))
		}
		if got := h.Len(); got != uint64(len(all)) {
			t.Errorf("%s: Len %s: %d; want %d", what, when, got, len(all))
		}
	}
}

// P2.1: digests that are known, from outside of this program.
func TestOfKnownDigests(t *testing.T) {
	for _, c := range []struct{ text, want string }{
		{"", "e3b0c44298fc1c149afbf4c8996fb92427ae41e4649b934ca495991b7852b855"},
		{"abc", "ba7816bf8f01cfea414140de5dae2223b00361a396177a9cb410ff61f20015ad"},
		{
			"abcdbcdecdefdefgefghfghighijhijkijkljklmklmnlmnomnopnopq",
			"248d6a61d20638b8e5c026930c3e6039a33ce45964ff2167f6ecedd419db06c1",
		},
		{
			"abcdefghbcdefghicdefghijdefghijkefghijklfghijklmghijklmnhijklmnoijklmnopjklmnopqklmnopqrlmnopqrsmnopqrstnopqrstu",
			"cf5b16a778af8380036ce59e7b0492370b249b11e8f07a51afac45037afee9d1",
		},
		{strings.Repeat("a", 1000000), "cdc76e5c9914fb9281a1c7e284d73e67f1809a48a497200e046d39ccc7112cd0"},
	} {
		if got := inSixteens(Of([]byte(c.text))); got != c.want {
			t.Errorf("Of %d bytes that begin with %.8q: %s; want %s", len(c.text), c.text, got, c.want)
		}
	}
}

// P2.1: digests about the ends of blocks, written out.
func TestOfAboutTheEndsOfBlocks(t *testing.T) {
	for _, c := range []struct {
		n    int
		want string
	}{
		{0, "e3b0c44298fc1c149afbf4c8996fb92427ae41e4649b934ca495991b7852b855"},
		{1, "084fed08b978af4d7d196a7446a86b58009e636b611db16211b65a9aadff29c5"},
		{55, "e7313d333c272e639f790978283f9eb392e843d0f29b7016828bb1daa4aac70b"},
		{56, "4324d65f3c103567f5589c710bc08f8523f929a9272e3af36fc968e52abc6c27"},
		{57, "35df609437dcfea3279283ab79fd554e2bf78f8f7ae2de532d8ee300b09e8f73"},
		{63, "81c80242132f230c3bd41b3e63bbcff16107339549214a99614ff26664625055"},
		{64, "39e3d7b6b5d075d37d053ad89b24b41bef4f3c29760c84447cab3f3be1882241"},
		{65, "aacca6ff74fdbb296d165a45cecfa04e5127bc008770fbbdd48006f2d2fae95e"},
		{119, "9ce7368e4daf32341631b492e80359dc9f594b48453cd0dd5bf0b19279cc177e"},
		{120, "7836b787757e95e58b3ca5aec90b1b004e8deba1e50e9675af9cabf1a13a04b5"},
		{121, "1189a98a00c71bc1848ea8bdc9700b442bee0be7c3f45172303f1ab0b6f1617e"},
		{127, "a8d23e75d936f303d248888d9b165ee543f4cbafcad3c9dd2a79bd84faa11d07"},
		{128, "d2742f1f4ac6bb7ca2b239ee18402ba8b3f9f8e652d2a72973c2b9ba11c08cf6"},
		{129, "307f8fc2c1622b92762e818d39a185d4d667ad49a4b07ceae1f4afa008a93ec4"},
	} {
		if got := inSixteens(Of(run(c.n))); got != c.want {
			t.Errorf("Of %d bytes: %s; want %s", c.n, got, c.want)
		}
	}
}

// P2.1: digests of as many bytes as there are places in some blocks, of bytes
// of all kinds, against the library's own.
func TestOfAgainstLibrary(t *testing.T) {
	for n := range 400 {
		for _, b := range [][]byte{run(n), make([]byte, n), bytes.Repeat([]byte{255}, n), bytes.Repeat([]byte{128}, n)} {
			if got, want := Of(b), exact(b); got != want {
				t.Errorf("Of %d bytes: %s; want %s", n, inSixteens(got), inSixteens(want))
			}
		}
	}
}

// P2.1: a list of none and an empty one are one.
func TestOfNoBytes(t *testing.T) {
	for _, b := range [][]byte{nil, {}, run(70)[:0], run(70)[70:]} {
		if got := Of(b); got != exact(nil) {
			t.Errorf("Of no bytes: %s; want %s", inSixteens(got), inSixteens(exact(nil)))
		}
	}
}

// P2.1, P2.2: from 2^29 bytes on, how many bits there are takes more than 32 of them.
func TestBitsThatTakeMoreThan32(t *testing.T) {
	if testing.Short() {
		t.Skip("half a gigabyte goes through here")
	}
	part := make([]byte, 1<<20)
	h := New()
	for range 1<<9 - 1 {
		h.Write(part)
	}
	h.Write(part[:1<<20-1])
	for _, c := range []struct {
		count uint64
		want  string
	}{
		{1<<29 - 1, zeros(1<<29 - 1)},
		{1 << 29, "9acca8e8c22201155389f65abbf6bc9723edc7384ead80503839f49dcc56d767"},
		{1<<29 + 1, zeros(1<<29 + 1)},
	} {
		if got := inSixteens(h.Sum()); got != c.want || h.Len() != c.count {
			t.Errorf("%d zeros: %s, %d of them; want %s", c.count, got, h.Len(), c.want)
		}
		h.Write(part[:1])
	}
}

// zeros tells the digest of n bytes 0 by the library's own way.
func zeros(n int) string {
	h := sha256.New()
	part := make([]byte, 1<<20)
	for ; n > len(part); n -= len(part) {
		h.Write(part)
	}
	h.Write(part[:n])
	return hex.EncodeToString(h.Sum(nil))
}

// P2.2: one without bytes, whatever was written to others.
func TestNewIsWithoutBytes(t *testing.T) {
	holdHasher(t, "a new one", New(), nil)
	other := written(run(100))
	holdHasher(t, "a new one beside another", New(), nil)
	holdHasher(t, "the other", other, run(100))
}

// P2.2: what is written stands behind all that was written, no matter who
// else is written to in between.
func TestWriteStandsBehind(t *testing.T) {
	one, other := New(), New()
	var all, allOfOther []byte
	for _, n := range edges() {
		one.Write(run(n))
		all = append(all, run(n)...)
		other.Write(bytes.Repeat([]byte{9}, n+1))
		allOfOther = append(allOfOther, bytes.Repeat([]byte{9}, n+1)...)
		holdHasher(t, "one", one, all)
		holdHasher(t, "the other", other, allOfOther)
	}
	if written([]byte("ab"), []byte("c")).Sum() == written([]byte("c"), []byte("ab")).Sum() {
		t.Error("the order of what is written isn't told")
	}
}

// P2.2: no bytes leave all as it was, wherever in a block they come.
func TestWriteOfNoBytes(t *testing.T) {
	for _, n := range edges() {
		h := New()
		h.Write(nil)
		h.Write(run(n))
		h.Write(nil)
		h.Write([]byte{})
		holdHasher(t, "with no bytes about it", h, run(n))
		h.Write(run(70)[:0])
		h.Write(run(65))
		holdHasher(t, "with more behind it", h, append(run(n), run(65)...))
	}
}

// P2.2: nothing changes by Sum and Len, also for what is written later.
func TestSumAndLenChangeNothing(t *testing.T) {
	for _, n := range edges() {
		for _, more := range edges() {
			asked, unasked := written(run(n)), written(run(n))
			before := *asked
			holdHasher(t, "asked", asked, run(n))
			if *asked != before {
				t.Errorf("%d bytes: a hasher was changed by Sum or Len", n)
			}
			asked.Write(run(more))
			unasked.Write(run(more))
			all := append(run(n), run(more)...)
			holdHasher(t, "asked in between", asked, all)
			holdHasher(t, "not asked in between", unasked, all)
		}
	}
}

// P2.2: an answer is its own; who changes it changes nothing else.
func TestSumSharesNothing(t *testing.T) {
	h := written(run(65))
	sum := h.Sum()
	clear(sum[:])
	holdHasher(t, "an answer was changed", h, run(65))
	first := h.Sum()
	h.Write(run(64))
	if first != exact(run(65)) {
		t.Error("an answer was changed by what was written behind it")
	}
}

// P2.3: in two parts, and in three with one of no bytes or of one, it is what
// it is at once.
func TestInPartsAtEveryPlace(t *testing.T) {
	for _, n := range edges() {
		all := run(n)
		for at := range n + 1 {
			holdHasher(t, "in two parts", written(all[:at], all[at:]), all)
			holdHasher(t, "with none between", written(all[:at], nil, all[at:]), all)
			if at < n {
				holdHasher(t, "with one between", written(all[:at], all[at:at+1], all[at+1:]), all)
			}
		}
	}
}

// P2.3: in parts of one size, asked for behind each of them.
func TestInPartsOfOneSize(t *testing.T) {
	all := run(300)
	for size := 1; size <= len(all); size++ {
		h := New()
		for at := 0; at < len(all); at += size {
			end := min(at+size, len(all))
			h.Write(all[at:end])
			holdHasher(t, "in parts of one size", h, all[:end])
		}
		if h.Sum() != Of(all) {
			t.Errorf("parts of %d: %s; at once %s", size, inSixteens(h.Sum()), inSixteens(Of(all)))
		}
	}
}

// P2.3: in parts of whatever sizes, none among them.
func TestInPartsOfManySizes(t *testing.T) {
	sizes := []int{0, 1, 63, 0, 64, 65, 2, 128, 55, 0, 9, 56, 57, 119, 120, 200, 3, 0}
	for first := range sizes {
		h := New()
		var all []byte
		for i := range sizes {
			part := run(500)[i : i+sizes[(first+i)%len(sizes)]]
			h.Write(part)
			all = append(all, part...)
			if i%3 == 0 {
				holdHasher(t, "in parts of many sizes", h, all)
			}
		}
		holdHasher(t, "in parts of many sizes, at last", h, all)
		if h.Sum() != Of(all) {
			t.Errorf("from size %d on: parts and at once differ", first)
		}
	}
}

// P2.3: what is kept hangs on the bytes alone, not on their parts.
func TestWhatIsKeptHangsOnTheBytes(t *testing.T) {
	all := run(200)
	for n := range len(all) {
		for at := range n {
			if *written(all[:at], all[at:n]) != *written(all[:n]) {
				t.Errorf("%d bytes, parted at %d: what is kept differs", n, at)
			}
		}
	}
}

// No more is kept than is needed: of the bytes, those behind the last whole block.
func TestWhatIsLeftIsKeptAlone(t *testing.T) {
	for n := range 200 {
		all := run(n)
		var want [blockSize]byte
		copy(want[:], all[n-n%blockSize:])
		for _, at := range []int{0, n / 2, n} {
			if h := written(all[:at], all[at:]); h.left != want {
				t.Errorf("%d bytes, parted at %d: %v is kept; want %v", n, at, h.left, want)
			}
		}
	}
}

// R3: what is handed in stays as it was, also behind its end.
func TestWhatIsHandedInStays(t *testing.T) {
	for _, n := range edges() {
		room := run(n + 200)
		Of(room[:n])
		h := New()
		h.Write(room[:n])
		h.Sum()
		h.Write(room[n : n+9])
		h.Sum()
		if !bytes.Equal(room, run(n+200)) {
			t.Errorf("%d bytes: what was handed in was changed", n)
		}
	}
}

// R3, R5: what is handed in is not kept: whoever changes it later changes no digest.
func TestWhatIsHandedInIsNotKept(t *testing.T) {
	for _, n := range edges() {
		h, b := New(), run(n)
		h.Write(b)
		clear(b)
		holdHasher(t, "what was handed in is zeros now", h, run(n))
		b = run(n)
		h.Write(b)
		clear(b)
		holdHasher(t, "likewise what was behind it", h, append(run(n), run(n)...))
	}
}

// R4: the same calls answer the same.
func TestTheSameAgain(t *testing.T) {
	for _, n := range edges() {
		first := Of(run(n))
		Of(run(n + 1))
		if again := Of(run(n)); again != first {
			t.Errorf("Of %d bytes: %s, then %s", n, inSixteens(first), inSixteens(again))
		}
	}
}
