package verdict

import (
	"math/rand"
	"slices"
	"testing"

	"almagest/api"
)

// told is a verdict of a digest.
type told struct {
	h  api.Hash
	is bool
}

// plain is a cache by the chapter's words: so many verdicts at most, each digest once, in the
// order in which they came.
type plain struct {
	room int
	all  []told
}

// at tells where a digest's verdict stands, or -1.
func (p *plain) at(h api.Hash) int {
	for i, v := range p.all {
		if v.h == h {
			return i
		}
	}
	return -1
}

func (p *plain) put(h api.Hash, is bool) (api.Hash, bool) {
	if i := p.at(h); i >= 0 {
		p.all[i].is = is
		return api.Hash{}, false
	}
	if len(p.all) < p.room {
		p.all = append(p.all, told{h, is})
		return api.Hash{}, false
	}
	first := p.all[0].h
	p.all = append(slices.Clone(p.all[1:]), told{h, is})
	return first, true
}

func (p *plain) get(h api.Hash) (bool, bool) {
	if i := p.at(h); i >= 0 {
		return p.all[i].is, true
	}
	return false, false
}

func (p *plain) known() []api.Hash {
	var all []api.Hash
	for _, v := range p.all {
		all = append(all, v.h)
	}
	return all
}

// both is a cache, and one by the chapter's words beside it.
type both struct {
	c *Cache
	p *plain
}

func bothOf(t *testing.T, room int) both {
	t.Helper()
	return both{cache(t, room), &plain{room: room}}
}

// put lets a verdict be known to both, holds the answers against each other, and answers them.
func (b both) put(t *testing.T, h api.Hash, is bool) (api.Hash, bool) {
	t.Helper()
	gone, full := b.p.put(h, is)
	holdPut(t, b.c, h, is, gone, full)
	return gone, full
}

// get asks both for a verdict.
func (b both) get(t *testing.T, h api.Hash) {
	t.Helper()
	is, known := b.p.get(h)
	holdGet(t, b.c, h, is, known)
}

// hold holds all that both tell, and the verdicts of the digests below a number.
func (b both) hold(t *testing.T, below int) {
	t.Helper()
	holdKnown(t, b.c, b.p.known())
	for n := range below {
		b.get(t, digest(n))
	}
}

// rooms has some rooms, from the least to the greatest.
var rooms = []int{1, 2, 3, 4, 5, 7, 8, 13, 16, 31, 32, 33, 50, 64, 99, 100}

// P18.2: all histories of up to five puts of four digests, the zero one among them, each as
// true or as false, in few rooms.
func TestAllShortHistories(t *testing.T) {
	const ways = 8
	for room := 1; room <= 5; room++ {
		for steps, all := 0, 1; steps <= 5; steps, all = steps+1, all*ways {
			for history := range all {
				b := bothOf(t, room)
				left := history
				for range steps {
					b.put(t, digest(left%ways/2), left%2 == 1)
					left /= ways
				}
				b.hold(t, 5)
				if t.Failed() {
					t.Fatalf("room %d, history %d of %d steps", room, history, steps)
				}
			}
		}
	}
}

// P18.1, P18.2: long runs of chance, of digests few and many beside the room, held call by
// call against the chapter's words.
func TestRuns(t *testing.T) {
	r := rand.New(rand.NewSource(181))
	for _, room := range rooms {
		for _, kinds := range []int{1, room, room + 1, room + 2, 2 * room, 5 * room} {
			b := bothOf(t, room)
			gave, again := 0, 0
			for range 2000 {
				h := digest(r.Intn(kinds))
				if r.Intn(3) == 0 {
					b.get(t, h)
					continue
				}
				if b.p.at(h) >= 0 {
					again++
				}
				if _, full := b.put(t, h, r.Intn(2) == 0); full {
					gave++
				}
				b.get(t, digest(r.Intn(kinds)))
				holdKnown(t, b.c, b.p.known())
			}
			b.hold(t, kinds)
			if (gave > 0) != (kinds > room) || again == 0 {
				t.Errorf("room %d, %d kinds: %d given up, %d put again", room, kinds, gave, again)
			}
			if t.Failed() {
				t.Fatalf("room %d, %d kinds", room, kinds)
			}
		}
	}
}

// P18.2: runs of digests of chance, each of all 32 bytes, each of which is put again some
// times while it may be known.
func TestRunsOfAnyDigests(t *testing.T) {
	r := rand.New(rand.NewSource(182))
	for _, room := range rooms {
		b := bothOf(t, room)
		var came []api.Hash
		for range 3000 {
			var h api.Hash
			if len(came) > 0 && r.Intn(2) == 0 {
				h = came[max(0, len(came)-1-r.Intn(2*room))]
			} else {
				r.Read(h[:])
			}
			came = append(came, h)
			b.put(t, h, r.Intn(2) == 0)
			b.get(t, came[r.Intn(len(came))])
		}
		b.hold(t, 2)
		for _, h := range came {
			b.get(t, h)
		}
	}
}

// holdOnce holds that there are no more verdicts than there is room for, and each digest once.
func holdOnce(t *testing.T, c *Cache, room int) {
	t.Helper()
	known := c.Known()
	if len(known) > room || c.Len() != len(known) {
		t.Errorf("room %d: %d verdicts, %d digests", room, c.Len(), len(known))
	}
	once := map[api.Hash]int{}
	for _, h := range known {
		once[h]++
		if once[h] > 1 {
			t.Errorf("room %d: %x is known twice", room, h)
		}
	}
}

// holdLast holds that of what came, each once behind the other, the last ones that there is
// room for are known, with the verdict that each was put with last; those ahead of them aren't.
func holdLast(t *testing.T, c *Cache, room int, came []api.Hash, last map[api.Hash]told) {
	t.Helper()
	others := map[api.Hash]told{}
	for i := len(came) - 1; i >= 0; i-- {
		h := came[i]
		if _, later := others[h]; later {
			continue // It came again, and was held.
		}
		if len(others) <= room-1 {
			holdGet(t, c, h, last[h].is, true)
		} else {
			holdGet(t, c, h, false, false)
		}
		others[h] = told{}
	}
}

// P18.3: never more than there is room for, each digest once, and what came last known as long
// as no more others came than there is room for, less one: runs of chance, in which Get tells
// whether what is put comes.
func TestWhatFollows(t *testing.T) {
	r := rand.New(rand.NewSource(183))
	for _, room := range rooms {
		for _, kinds := range []int{room, room + 1, 2*room + 1, 6 * room} {
			c := cache(t, room)
			var came []api.Hash
			last := map[api.Hash]told{}
			for step := range 1500 {
				h, is := digest(r.Intn(kinds)), r.Intn(2) == 0
				if _, known := c.Get(h); !known {
					came = append(came, h)
				}
				c.Put(h, is)
				last[h] = told{h, is}
				holdGet(t, c, h, is, true)
				holdOnce(t, c, room)
				if step%10 == 0 || step > 1490 {
					holdLast(t, c, room, came, last)
				}
			}
			if len(came) < min(room, kinds) {
				t.Errorf("room %d, %d kinds: only %d came", room, kinds, len(came))
			}
			if t.Failed() {
				t.Fatalf("room %d, %d kinds", room, kinds)
			}
		}
	}
}

// P18.3: what came is known while others come, as many as there is room for, less one, however
// often these are put, and it is asked for; the next one gives it up.
func TestKnownForSoLong(t *testing.T) {
	for _, room := range rooms {
		for _, ahead := range []int{0, 1, room - 1, room, 3 * room} {
			c := cache(t, room)
			for n := range ahead {
				c.Put(digest(1000+n), true)
			}
			c.Put(digest(1), true)
			for n := range room - 1 {
				c.Put(digest(2+n), false)
				c.Put(digest(2+n), true)
				holdGet(t, c, digest(1), true, true)
			}
			holdKnown(t, c, row(1, 1+room))
			holdPut(t, c, digest(1+room), false, digest(1), true)
			holdGet(t, c, digest(1), false, false)
		}
	}
}

// R4: the same calls, in the same order, answer the same, in as many caches as there are.
func TestSameAgain(t *testing.T) {
	run := func() []told {
		r := rand.New(rand.NewSource(184))
		c := cache(t, 8)
		var answers []told
		for range 3000 {
			gone, full := c.Put(digest(r.Intn(20)), r.Intn(2) == 0)
			answers = append(answers, told{gone, full})
			for _, h := range c.Known() {
				is, _ := c.Get(h)
				answers = append(answers, told{h, is})
			}
		}
		return answers
	}
	first := run()
	for range 5 {
		if !slices.Equal(run(), first) {
			t.Fatal("the same calls answer another thing")
		}
	}
}

// R5: no more is kept than is known, however many came: neither in the map nor in the list.
func TestKeepsNoMore(t *testing.T) {
	for _, room := range []int{1, 8, 100} {
		c := cache(t, room)
		for n := range 60000 {
			c.Put(digest(n), n%2 == 0)
		}
		if len(c.verdicts) != room || len(c.came) != room || cap(c.came) > 4*room {
			t.Errorf("room %d: %d, %d, %d", room, len(c.verdicts), len(c.came), cap(c.came))
		}
		holdKnown(t, c, row(60000-room, 60000))
	}
}
