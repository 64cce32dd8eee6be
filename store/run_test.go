package store

import (
	"bytes"
	"math/rand"
	"slices"
	"testing"

	"almagest/api"
	"almagest/order"
	"almagest/state"
)

// plain is a store by the chapter's words: some states in a row, in the order in which they
// came, and the digest of the pinned one, or none.
type plain struct {
	room   int
	all    []known
	pinned []api.Hash
}

// at tells where the state under a digest stands, or -1.
func (p *plain) at(h api.Hash) int {
	return slices.IndexFunc(p.all, func(k known) bool { return k.key.Hash == h })
}

func (p *plain) put(k known) (api.Hash, bool) {
	if p.at(k.key.Hash) >= 0 {
		return api.Hash{}, false
	}
	p.all = append(p.all, k)
	if len(p.all) <= p.room {
		return api.Hash{}, false
	}
	least := -1
	for at, k := range p.all {
		if !slices.Contains(p.pinned, k.key.Hash) && (least < 0 || byKey(k, p.all[least]) < 0) {
			least = at
		}
	}
	h := p.all[least].key.Hash
	p.all = slices.Delete(p.all, least, least+1)
	return h, true
}

func (p *plain) keep(k known) (api.Hash, bool) {
	p.pinned = []api.Hash{k.key.Hash}
	return p.put(k)
}

func (p *plain) pin(h api.Hash) bool {
	if p.at(h) < 0 {
		return false
	}
	p.pinned = []api.Hash{h}
	return true
}

func (p *plain) keys() []order.Key {
	var keys []order.Key
	for _, k := range p.all {
		keys = append(keys, k.key)
	}
	slices.SortFunc(keys, func(a, b order.Key) int { return bytes.Compare(number(a), number(b)) })
	return keys
}

// both is a store, and one by the chapter's words beside it.
type both struct {
	s *Store
	p *plain
}

func bothOf(t *testing.T, room int) both {
	t.Helper()
	return both{store(t, room), &plain{room: room}}
}

// put puts a state into both, or keeps it, holds the answers against each other, and tells
// whether one was given up, and whether that is itself.
func (b both) put(t *testing.T, k known, keep bool) (bool, bool) {
	t.Helper()
	one, other := b.s.Put, b.p.put
	if keep {
		one, other = b.s.Keep, b.p.keep
	}
	h, full := one(k.x)
	want, was := other(k)
	if h != want || full != was {
		t.Errorf("put of Length %d (keep: %t): %x, %t; want %x, %t", k.x.Length, keep, h, full, want, was)
	}
	return was, was && want == k.key.Hash
}

// pin pins one in both.
func (b both) pin(t *testing.T, h api.Hash) bool {
	t.Helper()
	want := b.p.pin(h)
	holdPin(t, b.s, h, want)
	return want
}

// get asks both for a state.
func (b both) get(t *testing.T, h api.Hash) {
	t.Helper()
	at := b.p.at(h)
	var want state.State
	if at >= 0 {
		want = b.p.all[at].x
	}
	if x, kept := b.s.Get(h); x != want || kept != (at >= 0) {
		t.Errorf("get %x: %v, %t; want %v, %t", h, x, kept, want, at >= 0)
	}
}

// hold holds all that both tell, and the states under some digests.
func (b both) hold(t *testing.T, pool []known) {
	t.Helper()
	b.holdSizes(t)
	if keys, want := b.s.Keys(), b.p.keys(); !slices.Equal(keys, want) {
		t.Errorf("keys: %x; want %x", keys, want)
	}
	for _, k := range pool {
		b.get(t, k.key.Hash)
	}
	b.get(t, api.Hash{})
}

// holdSizes holds how many there are, and which one is pinned.
func (b both) holdSizes(t *testing.T) {
	t.Helper()
	if n := b.s.Len(); n != len(b.p.all) || len(b.s.states) != n {
		t.Errorf("%d are kept, %d stand in the map; want %d", n, len(b.s.states), len(b.p.all))
	}
	var want api.Hash
	if len(b.p.pinned) > 0 {
		want = b.p.pinned[0]
	}
	if h, pinned := b.s.Pinned(); h != want || pinned != (len(b.p.pinned) > 0) {
		t.Errorf("pinned: %x, %t; want %x", h, pinned, want)
	}
}

// step does one of three things of both: what a number tells, of a state.
func (b both) step(t *testing.T, k known, way int) {
	t.Helper()
	switch way {
	case 0:
		b.put(t, k, false)
	case 1:
		b.put(t, k, true)
	default:
		b.pin(t, k.key.Hash)
	}
}

// P19.2: all histories of up to four calls of Put, Keep and Pin, of four states, in few rooms.
func TestAllShortHistories(t *testing.T) {
	pool := knownOf(mixed(4))
	ways := 3 * len(pool)
	for room := 2; room <= 3; room++ {
		for steps, all := 1, ways; steps <= 4; steps, all = steps+1, all*ways {
			for history := range all {
				b := bothOf(t, room)
				left := history
				for range steps {
					b.step(t, pool[left%len(pool)], left%ways/len(pool))
					left /= ways
				}
				b.hold(t, pool)
				if t.Failed() {
					t.Fatalf("room %d, history %d of %d steps", room, history, steps)
				}
			}
		}
	}
}

// met counts what a run of chance met.
type met struct{ gave, itself, again, pinned, missed int }

// chance does so many steps of chance of both; the more seldom, the fewer of them are Keep or Pin.
func (b both) chance(t *testing.T, r *rand.Rand, pool []known, steps, seldom int) met {
	t.Helper()
	var m met
	for range steps {
		k := pool[r.Intn(len(pool))]
		if b.p.at(k.key.Hash) >= 0 {
			m.again++
		}
		if r.Intn(seldom) > 0 || r.Intn(2) == 0 {
			full, itself := b.put(t, k, r.Intn(seldom) == 0)
			if full {
				m.gave++
			}
			if itself {
				m.itself++
			}
		} else if b.pin(t, k.key.Hash) {
			m.pinned++
		} else {
			m.missed++
		}
		b.get(t, k.key.Hash)
		b.get(t, pool[r.Intn(len(pool))].key.Hash)
		b.holdSizes(t)
		if r.Intn(10) == 0 {
			b.hold(t, nil)
		}
	}
	b.hold(t, pool)
	return m
}

// rooms has some rooms, from the least to the greatest.
var rooms = []int{2, 3, 4, 5, 8, 12, 31, 64, 99, 100}

// P19.1, P19.2: long runs of chance, of states few and many beside the room, held call by call
// against the chapter's words.
func TestRuns(t *testing.T) {
	r := rand.New(rand.NewSource(195))
	for _, room := range rooms {
		for i, kinds := range []int{1, room, room + 1, room + 3, 2 * room, min(5*room, 250)} {
			for turn, seldom := range []int{2, 9} {
				w := rows(kinds)[(3*i+turn+room)%11]
				pool := knownOf(w.states)
				b := bothOf(t, room)
				m := b.chance(t, r, pool, 300+8*room, seldom)
				if m.again == 0 || m.pinned == 0 || kinds > room && m.gave == 0 || kinds >= 2*room && (m.itself == 0 || m.missed == 0) {
					t.Errorf("%d kinds, 1 in %d: %+v", kinds, seldom, m)
				}
				if t.Failed() {
					t.Fatalf("%s, room %d", w.name, room)
				}
			}
		}
	}
}

// P19.3: of states that came, where none is pinned, those with the greatest keys are kept: all
// orders of five.
func TestGreatestOfAllOrders(t *testing.T) {
	for _, w := range rows(5) {
		for room := 2; room <= 5; room++ {
			want := knownOf(w.states[5-room:])
			for turn := range 120 {
				s := store(t, room)
				left := slices.Clone(w.states)
				for many := 5; many > 0; many-- {
					at := turn % many
					turn /= many
					s.Put(left[at])
					left = slices.Delete(left, at, at+1)
				}
				holdKeys(t, s, want)
				if t.Failed() {
					t.Fatalf("%s, room %d", w.name, room)
				}
			}
		}
	}
}

// holdKeys holds the keys of all that are kept.
func holdKeys(t *testing.T, s *Store, want []known) {
	t.Helper()
	var keys []order.Key
	for _, k := range want {
		keys = append(keys, k.key)
	}
	if told := s.Keys(); !slices.Equal(told, keys) {
		t.Errorf("keys: %x; want %x", told, keys)
	}
}

// P19.3: the greatest are kept in whatever order the states come, some of them again and again:
// runs of chance.
func TestGreatestOfChance(t *testing.T) {
	r := rand.New(rand.NewSource(196))
	for _, room := range rooms {
		for _, w := range rows(min(2*room+3, 250)) {
			pool := knownOf(w.states)
			s := store(t, room)
			var came []known
			for range 4 * room {
				at := r.Intn(len(pool))
				s.Put(pool[at].x)
				if !slices.Contains(came, pool[at]) {
					came = append(came, pool[at])
				}
			}
			slices.SortFunc(came, byKey)
			holdKeys(t, s, came[max(0, len(came)-room):])
			for _, at := range r.Perm(len(pool)) {
				s.Put(pool[at].x)
			}
			holdKeys(t, s, pool[len(pool)-room:])
			holdPinned(t, s)
			if t.Failed() {
				t.Fatalf("%s, room %d", w.name, room)
			}
		}
	}
}

// P19.3: never more than there is room for, each once, and the pinned one among them: runs of
// chance, of which nothing is known but what the store itself tells.
func TestWhatFollows(t *testing.T) {
	r := rand.New(rand.NewSource(197))
	for _, room := range rooms {
		pool := mixed(min(3*room, 250))
		s := store(t, room)
		for range 400 {
			x := pool[r.Intn(len(pool))]
			before, _ := s.Pinned()
			switch r.Intn(6) {
			case 0:
				s.Keep(x)
				holdPinned(t, s, x)
				holdGet(t, s, x)
			case 1:
				_, kept := s.Get(state.Hash(x))
				holdPin(t, s, state.Hash(x), kept)
			default:
				s.Put(x)
				if h, _ := s.Pinned(); h != before {
					t.Errorf("room %d: Put pins %x", room, h)
				}
			}
			holdBounds(t, s, room)
		}
		if s.Len() != room {
			t.Errorf("room %d: only %d are kept", room, s.Len())
		}
	}
}

// holdBounds holds that there are no more than there is room for, each once, and the pinned
// one among them.
func holdBounds(t *testing.T, s *Store, room int) {
	t.Helper()
	keys := s.Keys()
	if len(keys) > room || s.Len() != len(keys) {
		t.Errorf("room %d: %d states, %d keys", room, s.Len(), len(keys))
	}
	for i := 1; i < len(keys); i++ {
		if bytes.Compare(number(keys[i-1]), number(keys[i])) >= 0 {
			t.Errorf("room %d: keys %x, %x don't rise", room, keys[i-1], keys[i])
		}
	}
	if h, pinned := s.Pinned(); pinned {
		x, kept := s.Get(h)
		if !kept || state.Hash(x) != h || !slices.Contains(keys, keyOf(x)) {
			t.Errorf("room %d: %x is pinned and not kept", room, h)
		}
	}
}

// R4: the same calls, in the same order, answer the same, in as many stores as there are.
func TestSameAgain(t *testing.T) {
	pool := mixed(40)
	run := func() []order.Key {
		r := rand.New(rand.NewSource(198))
		s := store(t, 12)
		var answers []order.Key
		for range 500 {
			h, _ := s.Put(pool[r.Intn(len(pool))])
			answers = append(answers, order.Key{Hash: h})
			if r.Intn(9) == 0 {
				h, _ = s.Keep(pool[r.Intn(len(pool))])
				answers = append(answers, order.Key{Hash: h})
			}
			answers = append(answers, s.Keys()...)
		}
		return answers
	}
	first := run()
	for range 5 {
		if !slices.Equal(run(), first) {
			t.Fatal("the same calls answer another thing")
		}
	}
}

// R5: no more is kept than there is room for, however many came.
func TestKeepsNoMore(t *testing.T) {
	for _, room := range []int{2, 12} {
		s := store(t, room)
		holdKeep(t, s, of(0))
		for n := range 5000 {
			s.Put(of(uint32(1 + n*7919%5000)))
		}
		want := lengths(0)
		for n := 5002 - room; n <= 5000; n++ {
			want = append(want, of(uint32(n)))
		}
		holdKept(t, s, want...)
	}
}
