package store

import (
	"bytes"
	"encoding/binary"
	"encoding/hex"
	"math"
	"math/rand"
	"slices"
	"testing"

	"almagest/api"
	"almagest/grow"
	"almagest/order"
	"almagest/state"
)

// written tells the digest of hexadecimal digits.
func written(digits string) api.Hash {
	b, err := hex.DecodeString(digits)
	if err != nil || len(b) != 32 {
		panic(digits)
	}
	return api.Hash(b)
}

// running tells the digest whose bytes are a number, and on from it.
func running(n byte) api.Hash {
	var h api.Hash
	for i := range h {
		h[i] = n + byte(i)
	}
	return h
}

// of tells a state of a Length, all unlike; none of them may be, and that of 0 is the zero one.
func of(length uint32) state.State { return state.State{Length: length} }

// lengths tells the states of Lengths.
func lengths(all ...uint32) []state.State {
	var l []state.State
	for _, length := range all {
		l = append(l, of(length))
	}
	return l
}

// keyOf tells a state's key, part by part.
func keyOf(x state.State) order.Key {
	return order.Key{Length: x.Length, Draw: x.Draw, Hash: state.Hash(x)}
}

// number tells a key's bytes, which as one number are ordered as keys are.
func number(k order.Key) []byte {
	b := binary.BigEndian.AppendUint32(nil, k.Length)
	b = append(b, k.Draw[:]...)
	return append(b, k.Hash[:]...)
}

// known is a state, and its key.
type known struct {
	x   state.State
	key order.Key
}

// knownOf tells states beside their keys.
func knownOf(l []state.State) []known {
	var all []known
	for _, x := range l {
		all = append(all, known{x, keyOf(x)})
	}
	return all
}

// byKey holds two states' keys against each other.
func byKey(a, b known) int { return bytes.Compare(number(a.key), number(b.key)) }

// rise tells states in the order of their keys.
func rise(l []state.State) []state.State {
	all := knownOf(l)
	slices.SortFunc(all, byKey)
	l = nil
	for _, k := range all {
		l = append(l, k.x)
	}
	return l
}

// row is some states whose keys rise.
type row struct {
	name   string
	states []state.State
}

// made makes a row of so many states, each by its place, which is less than 250.
func made(name string, many int, by func(n byte) state.State) row {
	var l []state.State
	for n := range many {
		l = append(l, by(byte(n)))
	}
	return row{name, rise(l)}
}

// rows makes rows of so many states, up to 250, which differ in one thing, in all, or as much
// as those that may be do.
func rows(many int) []row {
	r := rand.New(rand.NewSource(191))
	base := state.State{Prev: running(3), Ledger: running(5), Draw: running(7), Slot: 9, Length: 11, Count: 1}
	changed := func(change func(x *state.State, n byte)) func(n byte) state.State {
		return func(n byte) state.State {
			x := base
			change(&x, n)
			return x
		}
	}
	return []row{
		made("Length", many, func(n byte) state.State { return of(uint32(n)) }),
		made("great Lengths", many, changed(func(x *state.State, n byte) { x.Length = uint32(n)<<24 | 7 })),
		made("first byte of Draw", many, changed(func(x *state.State, n byte) { x.Draw[0] = n })),
		made("last byte of Draw", many, changed(func(x *state.State, n byte) { x.Draw[31] = n })),
		made("digest alone, by Ledger", many, changed(func(x *state.State, n byte) { x.Ledger[31] = n })),
		made("digest alone, by Lock", many, changed(func(x *state.State, n byte) { x.Epochs.Next.Lock[0] = n })),
		made("Length, against Draw", many, changed(func(x *state.State, n byte) { x.Length, x.Draw[0] = uint32(n), 255-n })),
		made("few Lengths and Draws", many, changed(func(x *state.State, n byte) { x.Length, x.Draw[9], x.Slot = uint32(n%3), n%5, uint32(n) })),
		made("first states", many, func(n byte) state.State { return state.Genesis(running(n)) }),
		made("children", many, func(n byte) state.State {
			x, _ := grow.Child(state.Genesis(running(n%4)), grow.Block{Slot: 1 + uint32(n%7), Draw: running(n)})
			return x
		}),
		made("chance", many, func(n byte) state.State {
			x := state.State{Slot: r.Uint32(), Length: r.Uint32(), Count: r.Uint32()}
			r.Read(x.Draw[:])
			r.Read(x.Epochs.Now.Seed[:])
			return x
		}),
	}
}

// upTo tells the states of so many Lengths, from 0 on.
func upTo(many int) []state.State { return rows(many)[0].states }

// mixed tells so many states of few Lengths and Draws, so that each part of their keys counts.
func mixed(many int) []state.State { return rows(many)[7].states }

// The rows have states that may be, and others.
func TestRows(t *testing.T) {
	for at, w := range rows(250) {
		for i, x := range w.states {
			if state.Right(x) != (at == 8 || at == 9) {
				t.Errorf("%s: %d: %v", w.name, i, x)
			}
			if i > 0 && byKey(known{w.states[i-1], keyOf(w.states[i-1])}, known{x, keyOf(x)}) >= 0 {
				t.Errorf("%s: %d doesn't rise", w.name, i)
			}
		}
	}
}

// store makes one with room.
func store(t *testing.T, room int) *Store {
	t.Helper()
	s, failed := New(room)
	if s == nil || failed != api.OK {
		t.Fatalf("room %d: %v, %d", room, s, failed)
	}
	return s
}

// gone is what Put and Keep answer: one that is given up, or none.
func gone(l ...state.State) (api.Hash, bool) {
	if len(l) > 0 {
		return state.Hash(l[0]), true
	}
	return api.Hash{}, false
}

// holdPut holds what Put answers: the state that is given up, if there is one.
func holdPut(t *testing.T, s *Store, x state.State, up ...state.State) {
	t.Helper()
	want, was := gone(up...)
	if h, full := s.Put(x); h != want || full != was {
		t.Errorf("put of Length %d: %x, %t; want %x, %t", x.Length, h, full, want, was)
	}
}

// holdKeep holds what Keep answers, and that the state is the pinned one.
func holdKeep(t *testing.T, s *Store, x state.State, up ...state.State) {
	t.Helper()
	want, was := gone(up...)
	if h, full := s.Keep(x); h != want || full != was {
		t.Errorf("keep of Length %d: %x, %t; want %x, %t", x.Length, h, full, want, was)
	}
	holdPinned(t, s, x)
}

// holdPin holds what Pin answers.
func holdPin(t *testing.T, s *Store, h api.Hash, want bool) {
	t.Helper()
	if pinned := s.Pin(h); pinned != want {
		t.Errorf("pin %x: %t; want %t", h, pinned, want)
	}
}

// holdPinned holds which state is pinned, if there is one.
func holdPinned(t *testing.T, s *Store, x ...state.State) {
	t.Helper()
	want, is := gone(x...)
	if h, pinned := s.Pinned(); h != want || pinned != is {
		t.Errorf("pinned: %x, %t; want %x, %t", h, pinned, want, is)
	}
}

// holdGet holds that a state is kept.
func holdGet(t *testing.T, s *Store, x state.State) {
	t.Helper()
	if told, kept := s.Get(state.Hash(x)); told != x || !kept {
		t.Errorf("get: %v, %t; want %v", told, kept, x)
	}
}

// holdNone holds that there is none under a digest.
func holdNone(t *testing.T, s *Store, h api.Hash) {
	t.Helper()
	if told, kept := s.Get(h); told != (state.State{}) || kept {
		t.Errorf("get %x: %v, %t; want none", h, told, kept)
	}
}

// holdKept holds which states are kept, whose keys rise, and that no more is.
func holdKept(t *testing.T, s *Store, want ...state.State) {
	t.Helper()
	var keys []order.Key
	for _, x := range want {
		key := keyOf(x)
		keys = append(keys, key)
		if told, kept := s.Get(key.Hash); told != x || !kept {
			t.Errorf("get: %v, %t; want %v", told, kept, x)
		}
	}
	if told := s.Keys(); !slices.Equal(told, keys) {
		t.Errorf("keys: %x; want %x", told, keys)
	}
	if n := s.Len(); n != len(want) {
		t.Errorf("%d are kept; want %d", n, len(want))
	}
	if len(s.states) != len(want) {
		t.Errorf("%d stand in the map; want %d", len(s.states), len(want))
	}
	holdNone(t, s, api.Hash{})
}

// fill puts states, where none is given up.
func fill(t *testing.T, s *Store, l ...state.State) {
	t.Helper()
	for _, x := range l {
		holdPut(t, s, x)
	}
}

// but tells a row without its one at a place.
func but(l []state.State, at int) []state.State { return slices.Delete(slices.Clone(l), at, at+1) }

// P19.2: the chapter's example.
func TestExample(t *testing.T) {
	s := store(t, 2)
	holdPut(t, s, of(5))
	holdPut(t, s, of(6))
	holdPut(t, s, of(4), of(4))
	holdKept(t, s, of(5), of(6))
}

// P19.2: digests that another program made: of a chain's states, and of the zero state.
func TestWrittenOut(t *testing.T) {
	first := state.Genesis(running(7))
	second, _ := grow.Child(first, grow.Block{Slot: 3, Ledger: running(20), Draw: running(60)})
	third, _ := grow.Child(second, grow.Block{Slot: 30, Ledger: running(31), Draw: running(73)})
	digests := []api.Hash{
		written("ed22f684a48cf8063075fabfd5d9ba06285a739f65b77133d5cb042082abcda1"),
		written("85e57e90a5bccb3aa6a2c6f2e861fc91156704b6065c8e2d8ce80bcc776e7301"),
		written("710cf98c8f816fc993be9a23b5bec064fcc9bf089c60c4f866452696145d315e"),
		written("04c62176e9f305cbdda2cc0a785ef2b41a9e0a324e3dda7339bb09ac9c3226e9"),
	}
	s := store(t, 3)
	for _, x := range []state.State{third, {}, first} {
		fill(t, s, x)
	}
	want := []order.Key{{Hash: digests[3]}, {Length: 1, Hash: digests[0]}, {Length: 3, Draw: running(73), Hash: digests[2]}}
	if keys := s.Keys(); !slices.Equal(keys, want) {
		t.Errorf("keys: %x; want %x", keys, want)
	}
	if h, full := s.Put(second); h != digests[3] || !full {
		t.Errorf("%x, %t are given up; want %x", h, full, digests[3])
	}
	holdPin(t, s, digests[0], true)
	if h, pinned := s.Pinned(); h != digests[0] || !pinned {
		t.Errorf("%x, %t is pinned; want %x", h, pinned, digests[0])
	}
	if h, full := s.Keep(state.State{}); h != digests[0] || !full {
		t.Errorf("%x, %t are given up; want %x", h, full, digests[0])
	}
	for i, x := range []state.State{{}, second, third, {}} {
		if told, kept := s.Get(digests[i]); told != x || kept != (i > 0) {
			t.Errorf("%x: %v, %t", digests[i], told, kept)
		}
	}
}

// P19.1: rooms that may not be: the nearest ones, and ones that go round to some that may.
func TestNewOfWrongRooms(t *testing.T) {
	for _, room := range []int{
		1, 0, -1, -2, -3, -99, -100, -101, 101, 102, 127, 128, 200, 255, 256, 257, 258, 356, -254, -156, 1<<16 + 2, 1<<31 - 1, 1 << 31,
		-1 << 31, 1<<32 - 1, 1 << 32, 1<<32 + 1, 1<<32 + 2, 1<<32 + 100, -1<<32 + 2, 1 << 62,
		math.MaxInt, math.MaxInt - 1, math.MinInt, math.MinInt + 1, math.MinInt + 2, math.MinInt + 100,
	} {
		if s, failed := New(room); s != nil || failed != api.ErrArg {
			t.Errorf("room %d: %v, %d", room, s, failed)
		}
	}
}

// P19.1, P19.2: each room that may be has room for so many states, and for no more.
func TestNewOfEachRoom(t *testing.T) {
	l := upTo(102)
	for room := 2; room <= 100; room++ {
		s := store(t, room)
		holdKept(t, s)
		holdPinned(t, s)
		fill(t, s, l[:room-1]...)
		holdKept(t, s, l[:room-1]...)
		fill(t, s, l[room-1])
		holdKept(t, s, l[:room]...)
		holdPut(t, s, l[room], l[0])
		holdKept(t, s, l[1:room+1]...)
		holdPut(t, s, l[room+1], l[1])
		holdKept(t, s, l[2:room+2]...)
	}
}

// someRooms has the least room, some, and the greatest one.
var someRooms = []int{2, 3, 4, 7, 12, 33, 100}

// P19.1: Len, Keys and Get of stores that are empty, half full, just full, and full with more
// that came, whatever the states differ in, in whatever order they came.
func TestLenKeysGet(t *testing.T) {
	r := rand.New(rand.NewSource(192))
	for _, room := range someRooms {
		for _, w := range rows(2 * room) {
			for _, many := range []int{0, 1, room / 2, room, room + 1, 2 * room} {
				s := store(t, room)
				came := slices.Clone(w.states[:many])
				r.Shuffle(many, func(i, j int) { came[i], came[j] = came[j], came[i] })
				for _, x := range came {
					s.Put(x)
				}
				least := max(0, many-room)
				holdKept(t, s, w.states[least:many]...)
				for _, x := range w.states[:least] {
					holdNone(t, s, state.Hash(x))
				}
				for _, x := range w.states[many:] {
					holdNone(t, s, state.Hash(x))
				}
				if t.Failed() {
					t.Fatalf("%s, room %d, %d came", w.name, room, many)
				}
			}
		}
	}
}

// P19.1: no digest of none, and no other one by a bit, tells a state.
func TestGetOfOtherDigests(t *testing.T) {
	s := store(t, 3)
	holdNone(t, s, api.Hash{})
	fill(t, s, of(5), state.Genesis(running(1)))
	for _, key := range s.Keys() {
		for bit := range 256 {
			h := key.Hash
			h[bit/8] ^= 1 << (bit % 8)
			holdNone(t, s, h)
			holdPin(t, s, h, false)
		}
	}
	for _, h := range []api.Hash{{}, running(1), {0: 255}, {31: 1}} {
		holdNone(t, s, h)
	}
	holdPinned(t, s)
}

// P19.1: a state comes back as it was, whatever it has, each bit of it: all of them are unlike.
func TestGetOfEachBit(t *testing.T) {
	base := state.Genesis(running(1))
	for bit := range 8 * len(state.Bytes(base)) {
		b := state.Bytes(base)
		b[bit/8] ^= 1 << (bit % 8)
		x := laid(t, b)
		s := store(t, 2)
		fill(t, s, base, x)
		holdPut(t, s, base)
		holdPut(t, s, x)
		holdKept(t, s, rise([]state.State{base, x})...)
	}
}

// laid tells the state whose fields have these bytes, one behind the other, right or not.
func laid(t *testing.T, b []byte) state.State {
	t.Helper()
	var x state.State
	if err := binary.Read(bytes.NewReader(b), binary.BigEndian, &x); err != nil {
		t.Fatal(err)
	}
	return x
}

// P19.1, P19.2: what is asked changes nothing, nor does Pin of what isn't kept.
func TestAskingChangesNothing(t *testing.T) {
	for _, pinned := range [][]state.State{nil, lengths(2), lengths(4), lengths(6)} {
		s := store(t, 3)
		fill(t, s, lengths(2, 6, 4)...)
		for _, x := range pinned {
			holdPin(t, s, state.Hash(x), true)
		}
		for range 10 {
			for _, h := range []api.Hash{{}, state.Hash(of(0)), state.Hash(of(3)), state.Hash(of(9)), running(1)} {
				holdNone(t, s, h)
				holdPin(t, s, h, false)
			}
			holdKept(t, s, lengths(2, 4, 6)...)
			holdPinned(t, s, pinned...)
		}
	}
}

// P19.1, R3: what Keys answered stays as it was when the store is changed afterwards, also
// behind its end.
func TestKeysStay(t *testing.T) {
	for _, room := range someRooms {
		l := mixed(3 * min(room, 80))
		for _, many := range []int{0, 1, room / 2, room - 1, room} {
			s := store(t, room)
			fill(t, s, l[:many]...)
			keys := s.Keys()
			stood := slices.Clone(keys[:cap(keys)])
			for _, x := range l {
				s.Put(x)
			}
			s.Keep(l[0])
			s.Pin(state.Hash(l[len(l)-1]))
			s.Keys()
			if len(keys) != many || !slices.Equal(keys[:cap(keys)], stood) {
				t.Errorf("room %d, %d kept: %x", room, many, keys)
			}
		}
	}
}

// P19.1, R3: a store, and another answer, stay as they were when what Keys answered is written
// to, also behind its end.
func TestStoreStays(t *testing.T) {
	for _, room := range someRooms {
		l := mixed(room + 1)
		for _, many := range []int{0, 1, room / 2, room - 1, room} {
			s := store(t, room)
			fill(t, s, l[:many]...)
			other, keys := s.Keys(), s.Keys()
			stood := slices.Clone(other)
			keys = keys[:cap(keys)]
			for i := range keys {
				keys[i] = order.Key{Length: uint32(i), Hash: running(byte(i))}
			}
			_ = append(keys[:0], make([]order.Key, room)...)
			holdKept(t, s, l[:many]...)
			if !slices.Equal(other, stood) {
				t.Errorf("room %d, %d kept: another answer is %x", room, many, other)
			}
			fill(t, s, l[many:room]...)
			holdPut(t, s, l[room], l[0])
			holdKept(t, s, l[1:]...)
		}
	}
}

// R3: what is kept, and what was answered, stay as they were when a state that was given, or
// answered, is changed.
func TestStatesStay(t *testing.T) {
	s := store(t, 2)
	x := of(5)
	s.Put(x)
	x.Length, x.Win.Ring.Counts[0] = 6, 3
	s.Keep(x)
	was := x
	x.Epochs.Now.Seed[0], x.Length = 1, 9
	told, _ := s.Get(state.Hash(was))
	told.Win.Ring.Counts[0], told.Length = 2, 8
	holdKept(t, s, of(5), was)
	holdPinned(t, s, was)
}

// R5: two stores know nothing of each other.
func TestTwoStores(t *testing.T) {
	one, other := store(t, 2), store(t, 2)
	holdKeep(t, one, of(1))
	holdKept(t, other)
	holdPinned(t, other)
	holdNone(t, other, state.Hash(of(1)))
	holdPin(t, other, state.Hash(of(1)), false)
	fill(t, other, of(1), of(2))
	fill(t, one, of(3))
	holdPinned(t, other)
	holdPin(t, other, state.Hash(of(2)), true)
	holdPut(t, other, of(4), of(1))
	holdPut(t, one, of(5), of(3))
	holdKept(t, one, of(1), of(5))
	holdPinned(t, one, of(1))
	holdKept(t, other, of(2), of(4))
	holdPinned(t, other, of(2))
	holdKept(t, store(t, 2))
}

// P19.2: an unlike state under the digest of one that is kept is none to be kept: what is kept
// is told by digests alone. No two such states are known, so one is laid there by hand.
func TestKeptByDigest(t *testing.T) {
	x, y := of(5), of(7)
	for _, put := range []func(*Store, state.State) (api.Hash, bool){(*Store).Put, (*Store).Keep} {
		s := store(t, 2)
		s.states[state.Hash(x)] = &y
		for many := 1; many <= 2; many++ {
			if h, full := put(s, x); h != (api.Hash{}) || full {
				t.Errorf("%d kept: %x, %t", many, h, full)
			}
			if told, kept := s.Get(state.Hash(x)); told != y || !kept || s.Len() != many {
				t.Errorf("%d kept: %v, %t, %d", many, told, kept, s.Len())
			}
			s.Put(of(9))
		}
	}
}

// P19.1, P19.2: the zero digest is one like the others, if a state has it: that none is known
// to have it doesn't tell that none is pinned, or given up. One is laid there by hand.
func TestZeroDigestOfOne(t *testing.T) {
	var zero api.Hash
	x := of(5)
	s := store(t, 2)
	s.states[zero] = &x
	holdPinned(t, s)
	if told, kept := s.Get(zero); told != x || !kept {
		t.Errorf("%v, %t", told, kept)
	}
	fill(t, s, of(7))
	if h, full := s.Put(of(6)); h != zero || !full {
		t.Errorf("%x, %t: not the one that isn't pinned", h, full)
	}
	holdKept(t, s, of(6), of(7))
	s = store(t, 2)
	s.states[zero] = &x
	holdPin(t, s, zero, true)
	if h, pinned := s.Pinned(); h != zero || !pinned {
		t.Errorf("%x, %t", h, pinned)
	}
	fill(t, s, of(7))
	holdPut(t, s, of(6), of(6))
	if told, kept := s.Get(zero); told != x || !kept || s.Len() != 2 {
		t.Errorf("%v, %t, %d", told, kept, s.Len())
	}
}
