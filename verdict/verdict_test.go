package verdict

import (
	"math"
	"slices"
	"testing"

	"almagest/api"
)

// digest tells a number's digest, all unlike; that of 0 is the zero one.
func digest(n int) api.Hash { return api.Hash{0: byte(n), 31: byte(n >> 8)} }

// digests tells the digests of numbers.
func digests(numbers ...int) []api.Hash {
	var all []api.Hash
	for _, n := range numbers {
		all = append(all, digest(n))
	}
	return all
}

// row tells the digests of the numbers from one on to ahead of another.
func row(from, to int) []api.Hash {
	var all []api.Hash
	for n := from; n < to; n++ {
		all = append(all, digest(n))
	}
	return all
}

// cache makes one with room.
func cache(t *testing.T, room int) *Cache {
	t.Helper()
	c, failed := New(room)
	if c == nil || failed != api.OK {
		t.Fatalf("room %d: %v, %d", room, c, failed)
	}
	return c
}

// fill lets the digests of the numbers from one on to ahead of another come, the even ones as
// true, where none is given up.
func fill(t *testing.T, c *Cache, from, to int) {
	t.Helper()
	for n := from; n < to; n++ {
		holdPut(t, c, digest(n), n%2 == 0, api.Hash{}, false)
	}
}

// holdPut holds what Put answers.
func holdPut(t *testing.T, c *Cache, h api.Hash, is bool, gone api.Hash, full bool) {
	t.Helper()
	if first, was := c.Put(h, is); first != gone || was != full {
		t.Errorf("put %x, %t: %x, %t; want %x, %t", h, is, first, was, gone, full)
	}
}

// holdGet holds what Get answers.
func holdGet(t *testing.T, c *Cache, h api.Hash, is, known bool) {
	t.Helper()
	if v, there := c.Get(h); v != is || there != known {
		t.Errorf("get %x: %t, %t; want %t, %t", h, v, there, is, known)
	}
}

// holdKnown holds which digests are known, and how many, and that no more is kept.
func holdKnown(t *testing.T, c *Cache, want []api.Hash) {
	t.Helper()
	if n := c.Len(); n != len(want) {
		t.Errorf("%d verdicts; want %d", n, len(want))
	}
	if known := c.Known(); !slices.Equal(known, want) {
		t.Errorf("known: %x; want %x", known, want)
	}
	if len(c.verdicts) != len(want) {
		t.Errorf("%d verdicts are kept; want %d", len(c.verdicts), len(want))
	}
}

// P18.2: the chapter's example.
func TestExample(t *testing.T) {
	c := cache(t, 1)
	a, b := digest(1), digest(2)
	holdPut(t, c, a, true, api.Hash{}, false)
	holdPut(t, c, b, false, a, true)
	holdGet(t, c, a, false, false)
	holdGet(t, c, b, false, true)
	holdKnown(t, c, []api.Hash{b})
}

// P18.1: rooms that may not be: the nearest ones, and ones that go round to some that may.
func TestNewOfWrongRooms(t *testing.T) {
	for _, room := range []int{
		0, -1, -2, -99, -100, -101, 101, 102, 127, 128, 200, 255, 256, 257, 356, -255, -156, 1<<16 + 1, 1<<31 - 1, 1 << 31,
		-1 << 31, 1<<32 - 1, 1 << 32, 1<<32 + 1, 1<<32 + 100, -1<<32 + 1, 1 << 62,
		math.MaxInt, math.MaxInt - 1, math.MinInt, math.MinInt + 1, math.MinInt + 100,
	} {
		if c, failed := New(room); c != nil || failed != api.ErrArg {
			t.Errorf("room %d: %v, %d", room, c, failed)
		}
	}
}

// P18.1, P18.2: each room that may be has room for so many verdicts, and for no more.
func TestNewOfEachRoom(t *testing.T) {
	for room := 1; room <= 100; room++ {
		c := cache(t, room)
		holdKnown(t, c, nil)
		for n := range room {
			holdKnown(t, c, row(1, 1+n))
			holdPut(t, c, digest(1+n), true, api.Hash{}, false)
		}
		holdKnown(t, c, row(1, 1+room))
		for n := range room + 2 {
			holdPut(t, c, digest(1+room+n), false, digest(1+n), true)
			holdKnown(t, c, row(2+n, 2+n+room))
		}
	}
}

// P18.1: Len and Known of caches that are empty, half full, just full, and full with more that
// came.
func TestLenAndKnown(t *testing.T) {
	for _, room := range []int{1, 2, 3, 8, 99, 100} {
		c := cache(t, room)
		holdKnown(t, c, nil)
		fill(t, c, 1, 1+room/2)
		holdKnown(t, c, row(1, 1+room/2))
		fill(t, c, 1+room/2, 1+room)
		holdKnown(t, c, row(1, 1+room))
		for n := range 3 * room {
			c.Put(digest(1+room+n), true)
		}
		holdKnown(t, c, row(1+3*room, 1+4*room))
	}
}

// P18.1: digests are told in the order in which they came, however they stand as numbers.
func TestKnownOrder(t *testing.T) {
	for _, want := range [][]api.Hash{
		digests(1, 2, 3, 4), digests(4, 3, 2, 1), digests(3, 1, 4, 2), digests(2, 0, 4, 1), digests(0, 256, 1, 257),
		digests(512, 1, 256, 2),
	} {
		c := cache(t, 4)
		for _, h := range want {
			holdPut(t, c, h, true, api.Hash{}, false)
		}
		holdKnown(t, c, want)
		holdPut(t, c, digest(9), true, want[0], true)
		holdKnown(t, c, append(slices.Clone(want[1:]), digest(9)))
	}
}

// P18.2: a digest that is known, first, in the midst, and last, is put as each verdict, where
// there is room and where there is none: it is that from now on, and stays where it stands.
func TestPutOfOneThatIsKnown(t *testing.T) {
	for _, room := range []int{1, 2, 5, 9, 100} {
		for _, many := range []int{room, room - 1, (room + 1) / 2, 1} {
			for at := range many {
				for _, is := range []bool{true, false} {
					c := cache(t, room)
					fill(t, c, 1, 1+many)
					for range 2 {
						holdPut(t, c, digest(1+at), is, api.Hash{}, false)
						holdKnown(t, c, row(1, 1+many))
					}
					for n := 1; n <= many; n++ {
						want := n%2 == 0
						if n == 1+at {
							want = is
						}
						holdGet(t, c, digest(n), want, true)
					}
				}
			}
		}
	}
}

// P18.2: a digest that was put again is given up in its turn all the same, also if it was put
// just ahead of that.
func TestPutAgainGivenUpInTurn(t *testing.T) {
	for _, room := range []int{1, 2, 3, 10, 100} {
		for at := range room {
			c := cache(t, room)
			fill(t, c, 1, 1+room)
			for n := range room {
				holdPut(t, c, digest(1+max(at, n)), true, api.Hash{}, false)
				holdPut(t, c, digest(1+room+n), false, digest(1+n), true)
				holdGet(t, c, digest(1+n), false, false)
			}
			holdKnown(t, c, row(1+room, 1+2*room))
		}
	}
}

// P18.2: what is put again is not given up for itself, though there is no room.
func TestPutAgainWithoutRoom(t *testing.T) {
	for _, room := range []int{1, 2, 7, 100} {
		c := cache(t, room)
		fill(t, c, 0, room)
		for n := range room {
			for _, is := range []bool{false, false, true, true, false} {
				holdPut(t, c, digest(n), is, api.Hash{}, false)
				holdGet(t, c, digest(n), is, true)
			}
		}
		holdKnown(t, c, row(0, room))
	}
}

// P18.2: a digest that was given up and comes again comes last, with the verdict that it then
// has, and gives up the one that came first.
func TestPutOfOneThatWasGivenUp(t *testing.T) {
	for _, room := range []int{1, 2, 3, 8, 100} {
		c := cache(t, room)
		fill(t, c, 1, 1+room)
		holdPut(t, c, digest(1+room), true, digest(1), true)
		holdGet(t, c, digest(1), false, false)
		holdPut(t, c, digest(1), true, digest(2), true)
		holdGet(t, c, digest(1), true, true)
		if room > 1 {
			holdKnown(t, c, append(row(3, 2+room), digest(1)))
			holdGet(t, c, digest(2), false, false)
		}
		holdPut(t, c, digest(1), false, api.Hash{}, false)
		holdGet(t, c, digest(1), false, true)
	}
}

// P18.2: two that give up each other by turns, in the room of one.
func TestTurnsInRoomOfOne(t *testing.T) {
	c := cache(t, 1)
	holdPut(t, c, digest(1), true, api.Hash{}, false)
	for n := range 200 {
		holdPut(t, c, digest(2), n%3 == 0, digest(1), true)
		holdGet(t, c, digest(1), false, false)
		holdGet(t, c, digest(2), n%3 == 0, true)
		holdPut(t, c, digest(1), n%2 == 0, digest(2), true)
		holdGet(t, c, digest(1), n%2 == 0, true)
		holdGet(t, c, digest(2), false, false)
		holdKnown(t, c, digests(1))
	}
}

// P18.2: the zero digest is one like the others: unknown at first, known as each verdict, put
// again, and given up, which is told beside true.
func TestZeroDigest(t *testing.T) {
	var zero api.Hash
	for _, room := range []int{1, 2, 3, 8, 100} {
		for at := range room {
			for _, is := range []bool{true, false} {
				c := cache(t, room)
				fill(t, c, 1, 1+at)
				holdGet(t, c, zero, false, false)
				holdPut(t, c, zero, is, zero, false)
				holdGet(t, c, zero, is, true)
				fill(t, c, 1+at, room)
				want := append(append(row(1, 1+at), zero), row(1+at, room)...)
				holdKnown(t, c, want)
				holdPut(t, c, zero, !is, zero, false)
				holdGet(t, c, zero, !is, true)
				holdKnown(t, c, want)
				for n := range room {
					holdGet(t, c, zero, n <= at && !is, n <= at)
					holdPut(t, c, digest(room+n), true, want[n], true)
				}
				holdGet(t, c, zero, false, false)
				holdKnown(t, c, row(room, 2*room))
				holdPut(t, c, zero, is, digest(room), true)
				holdGet(t, c, zero, is, true)
			}
		}
	}
}

// P18.2: the zero digest comes where there is no room.
func TestZeroDigestComesLast(t *testing.T) {
	for _, room := range []int{1, 2, 6, 100} {
		c := cache(t, room)
		fill(t, c, 1, 1+room)
		holdPut(t, c, api.Hash{}, true, digest(1), true)
		holdGet(t, c, api.Hash{}, true, true)
		holdKnown(t, c, append(row(2, 1+room), api.Hash{}))
	}
}

// P18.2: Get of each digest that is known with each verdict, of none that isn't, and of those
// that were given up.
func TestGet(t *testing.T) {
	for _, room := range []int{1, 2, 5, 64, 100} {
		c := cache(t, room)
		for n := range 3*room + 1 {
			for other := range 3*room + 2 {
				known := other < n && other >= n-room
				holdGet(t, c, digest(other), known && other%3 == 0, known)
			}
			c.Put(digest(n), n%3 == 0)
		}
	}
}

// P18.2: Get changes nothing: neither of what is known, nor what is given up next.
func TestGetChangesNothing(t *testing.T) {
	c := cache(t, 3)
	for range 10 {
		holdGet(t, c, digest(1), false, false)
		holdKnown(t, c, nil)
	}
	fill(t, c, 1, 4)
	for range 10 {
		holdGet(t, c, digest(1), false, true)
		holdGet(t, c, digest(2), true, true)
		holdGet(t, c, digest(4), false, false)
		holdGet(t, c, digest(0), false, false)
		holdKnown(t, c, row(1, 4))
	}
	holdPut(t, c, digest(4), true, digest(1), true)
	for range 10 {
		holdGet(t, c, digest(2), true, true)
		holdGet(t, c, digest(1), false, false)
	}
	holdPut(t, c, digest(5), true, digest(2), true)
	holdKnown(t, c, row(3, 6))
}

// P18.2: each bit of a digest tells it from another one.
func TestEachBit(t *testing.T) {
	for _, base := range []api.Hash{{}, {0: 255, 15: 1, 16: 128, 31: 255}} {
		for bit := range 256 {
			c := cache(t, 2)
			other := base
			other[bit/8] ^= 1 << (bit % 8)
			holdPut(t, c, base, true, api.Hash{}, false)
			holdGet(t, c, other, false, false)
			holdPut(t, c, other, false, api.Hash{}, false)
			holdGet(t, c, base, true, true)
			holdGet(t, c, other, false, true)
			holdKnown(t, c, []api.Hash{base, other})
		}
	}
}

// P18.1, R3: what Known answered stays as it was when the cache is changed afterwards, also
// behind its end.
func TestKnownStays(t *testing.T) {
	for _, room := range []int{1, 2, 3, 8, 100} {
		for many := range room + 1 {
			c := cache(t, room)
			fill(t, c, 1, 1+many)
			known := c.Known()
			behind := slices.Clone(known[:cap(known)])
			for n := range 2*room + 1 {
				c.Put(digest(1+n), n%2 == 0)
				c.Put(digest(500+n), true)
			}
			if !slices.Equal(known, row(1, 1+many)) || !slices.Equal(known[:cap(known)], behind) {
				t.Errorf("room %d, %d known: %x", room, many, known)
			}
		}
	}
}

// P18.1, R3: a cache, and another answer, stay as they were when what Known answered is
// written to, also behind its end.
func TestCacheStays(t *testing.T) {
	for _, room := range []int{1, 2, 3, 8, 100} {
		for many := range room + 1 {
			c := cache(t, room)
			fill(t, c, 1, 1+many)
			other, known := c.Known(), c.Known()
			known = known[:cap(known)]
			for i := range known {
				known[i] = digest(700 + i)
			}
			_ = append(known[:0], row(800, 800+room)...)
			holdKnown(t, c, row(1, 1+many))
			if !slices.Equal(other, row(1, 1+many)) {
				t.Errorf("room %d, %d known: another answer is %x", room, many, other)
			}
			fill(t, c, 1+many, 1+room)
			for n := 1; n <= room; n++ {
				holdGet(t, c, digest(n), n%2 == 0, true)
			}
			for n := range room {
				holdPut(t, c, digest(900+n), true, digest(1+n), true)
			}
			holdKnown(t, c, row(900, 900+room))
		}
	}
}

// R5: two caches know nothing of each other.
func TestTwoCaches(t *testing.T) {
	one, other := cache(t, 2), cache(t, 2)
	holdPut(t, one, digest(1), true, api.Hash{}, false)
	holdGet(t, other, digest(1), false, false)
	holdKnown(t, other, nil)
	holdPut(t, other, digest(1), false, api.Hash{}, false)
	holdGet(t, one, digest(1), true, true)
	holdPut(t, other, digest(2), true, api.Hash{}, false)
	holdPut(t, one, digest(3), true, api.Hash{}, false)
	holdPut(t, other, digest(4), true, digest(1), true)
	holdGet(t, one, digest(1), true, true)
	holdKnown(t, one, digests(1, 3))
	holdKnown(t, other, digests(2, 4))
	holdKnown(t, cache(t, 2), nil)
}
