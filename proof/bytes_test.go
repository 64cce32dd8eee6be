package proof

import (
	"bytes"
	"math/rand"
	"slices"
	"testing"

	"almagest/api"
	"almagest/tree"
)

// holdBytes holds a path's bytes against its digests', and that they are read as it.
func holdBytes(t *testing.T, p tree.Path) {
	t.Helper()
	var want []byte
	for height := range 4 {
		for at := range 32 {
			want = append(want, p[height][at])
		}
	}
	b := Bytes(p)
	if !bytes.Equal(b, want) {
		t.Errorf("%x: bytes %x", p, b)
	}
	if q, failed := Read(b); q != p || failed != api.OK {
		t.Errorf("%x: read back %x, %d", p, q, failed)
	}
}

// holdRead holds what is read of some bytes, and that they stay.
func holdRead(t *testing.T, b []byte, want tree.Path, failed api.Errno) {
	t.Helper()
	before := slices.Clone(b)
	if p, e := Read(b); p != want || e != failed {
		t.Errorf("%d bytes %x: %x, %d; want %x, %d", len(b), b, p, e, want, failed)
	}
	if !bytes.Equal(b, before) {
		t.Errorf("%x: the bytes changed to %x", before, b)
	}
}

// P16.2: the bytes of a path whose digests are all unlike, of ones that are all alike, and of
// ones of trees and of chance.
func TestBytes(t *testing.T) {
	if b := Bytes(rising()); len(b) != 128 || b[0] != 0 || b[31] != 31 || b[32] != 40 || b[64] != 80 || b[96] != 120 || b[127] != 151 {
		t.Errorf("%x", b)
	}
	holdBytes(t, rising())
	holdBytes(t, tree.Path{})
	holdBytes(t, tree.Path{{1}, {1}, {1}, {1}})
	for _, l := range ledgers() {
		for place := range 16 {
			holdBytes(t, way(l.tree(), place))
		}
	}
	r := rand.New(rand.NewSource(167))
	for range 2000 {
		holdBytes(t, path(r))
	}
}

// P16.2: each byte of a path alone: where it stands among its bytes.
func TestBytesEachByte(t *testing.T) {
	for height := range 4 {
		for at := range 32 {
			for _, some := range []byte{1, 128, 255} {
				var p tree.Path
				p[height][at] = some
				want := make([]byte, 128)
				want[32*height+at] = some
				if b := Bytes(p); !bytes.Equal(b, want) {
					t.Errorf("digest %d, byte %d: %x", height, at, b)
				}
				holdRead(t, want, p, api.OK)
			}
		}
	}
}

// P16.2: as many bytes as a path has, though none told them: the path whose bytes they are.
func TestReadAny(t *testing.T) {
	r := rand.New(rand.NewSource(168))
	for range 2000 {
		b := make([]byte, 128)
		r.Read(b)
		p, failed := Read(b)
		if again := Bytes(p); !bytes.Equal(again, b) || failed != api.OK {
			t.Errorf("%x: %x, %d", b, again, failed)
		}
		for height := range 4 {
			if !bytes.Equal(p[height][:], b[32*height:32*height+32]) {
				t.Errorf("%x: digest %d is %x", b, height, p[height])
			}
		}
	}
	ones := api.Hash(bytes.Repeat([]byte{255}, 32))
	holdRead(t, bytes.Repeat([]byte{255}, 128), tree.Path{ones, ones, ones, ones}, api.OK)
}

// P16.2, R2, R6: each number of bytes ahead of a path's, none among them, and some behind it,
// also such as go round to a path's.
func TestReadLengths(t *testing.T) {
	holdRead(t, nil, tree.Path{}, api.ErrShort)
	holdRead(t, []byte{}, tree.Path{}, api.ErrShort)
	b := append(Bytes(rising()), bytes.Repeat([]byte{77}, 1<<16+128)...)
	for size := range 128 {
		holdRead(t, b[:size], tree.Path{}, api.ErrShort)
		holdRead(t, make([]byte, size), tree.Path{}, api.ErrShort)
		holdRead(t, slices.Clip(b[:size]), tree.Path{}, api.ErrShort)
	}
	holdRead(t, b[:128], rising(), api.OK)
	for size := 129; size <= 520; size++ {
		holdRead(t, b[:size], tree.Path{}, api.ErrLong)
		holdRead(t, make([]byte, size), tree.Path{}, api.ErrLong)
	}
	for _, size := range []int{600, 1024, 4096, 1<<15 + 128, 1 << 16, 1<<16 + 127, 1<<16 + 128, 1<<16 + 256} {
		holdRead(t, b[:size], tree.Path{}, api.ErrLong)
	}
}

// P16.2, R3: a path that was read stays when the bytes are changed, and bytes when the path is.
func TestApart(t *testing.T) {
	b := Bytes(rising())
	p, _ := Read(b)
	for at := range b {
		b[at] ^= 255
	}
	if p != rising() {
		t.Errorf("what was read changed: %x", p)
	}
	told := Bytes(p)
	kept := slices.Clone(told)
	for height := range p {
		p[height][height] ^= 255
	}
	if !bytes.Equal(told, kept) {
		t.Errorf("what was told changed: %x", told)
	}
}

// P16.2, R3, R4: what was answered is changed, also behind its end, and the same is answered
// again.
func TestBytesAgain(t *testing.T) {
	p := rising()
	first, second := Bytes(p), Bytes(p)
	for at := range first[:cap(first)] {
		first[:cap(first)][at] ^= 255
	}
	if want := Bytes(rising()); !bytes.Equal(second, want) {
		t.Errorf("%x; want %x", second, want)
	}
	holdBytes(t, p)
	if p != rising() {
		t.Errorf("the path changed: %x", p)
	}
}
