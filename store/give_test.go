package store

import (
	"math/rand"
	"slices"
	"testing"

	"almagest/api"
	"almagest/state"
)

// places tells the places of a row of so many: all, or if there are many those about its ends
// and the one in its middle.
func places(many int) []int {
	if many > 5 {
		return []int{0, 1, many / 2, many - 1}
	}
	var all []int
	for at := range many {
		all = append(all, at)
	}
	return all
}

// shuffled tells a row in another order.
func shuffled(r *rand.Rand, l []state.State) []state.State {
	l = slices.Clone(l)
	r.Shuffle(len(l), func(i, j int) { l[i], l[j] = l[j], l[i] })
	return l
}

// kept makes a store with room that keeps states which came in any order, one of which is
// pinned, or none.
func kept(t *testing.T, r *rand.Rand, room int, l []state.State, pinned []state.State) *Store {
	t.Helper()
	s := store(t, room)
	fill(t, s, shuffled(r, l)...)
	for _, x := range pinned {
		holdPin(t, s, state.Hash(x), true)
	}
	return s
}

// one is a state of a row that isn't kept yet, where the row's others are: one of these is
// pinned, or none.
type one struct {
	all    []state.State
	at     int
	pinned []state.State
}

// eachOne tries each one at some places of rows of so many, of all kinds, with none of the
// others pinned, and with each at some places of these.
func eachOne(t *testing.T, room, many int, try func(*Store, one)) {
	t.Helper()
	r := rand.New(rand.NewSource(193))
	for _, w := range rows(many) {
		for _, at := range places(many) {
			others := but(w.states, at)
			pins := [][]state.State{nil}
			for _, p := range places(len(others)) {
				pins = append(pins, others[p:p+1])
			}
			for _, pinned := range pins {
				try(kept(t, r, room, others, pinned), one{w.states, at, pinned})
				if t.Failed() {
					t.Fatalf("%s, room %d, new one at %d of %d, pinned %v", w.name, room, at, many, pinned)
				}
			}
		}
	}
}

// P19.2: Put of a state that isn't kept, where there is no room: its key is the least, the
// greatest and between, and none is pinned, the one with the least key, and each other one.
// Itself is given up, if its key is the least but the pinned one's.
func TestPutWithoutRoom(t *testing.T) {
	for _, room := range []int{2, 3, 4, 12, 100} {
		eachOne(t, room, room+1, func(s *Store, o one) {
			least := 0
			if slices.Contains(o.pinned, o.all[0]) {
				least = 1
			}
			holdPut(t, s, o.all[o.at], o.all[least])
			holdKept(t, s, but(o.all, least)...)
			holdNone(t, s, state.Hash(o.all[least]))
			holdPinned(t, s, o.pinned...)
		})
	}
}

// P19.2: Keep of a state that isn't kept, where there is no room: it is the pinned one, and so
// isn't given up, though its key be the least; the one that was pinned may be.
func TestKeepWithoutRoom(t *testing.T) {
	for _, room := range []int{2, 3, 4, 12, 100} {
		eachOne(t, room, room+1, func(s *Store, o one) {
			least := 0
			if o.at == 0 {
				least = 1
			}
			holdKeep(t, s, o.all[o.at], o.all[least])
			holdKept(t, s, but(o.all, least)...)
			holdNone(t, s, state.Hash(o.all[least]))
		})
	}
}

// P19.2: Put and Keep of a state that isn't kept, where there is room: none is given up, and
// Put leaves the pinned one.
func TestPutAndKeepWithRoom(t *testing.T) {
	for _, room := range []int{2, 3, 4, 12, 100} {
		for _, many := range []int{1, (room + 1) / 2, room} {
			eachOne(t, room, many, func(s *Store, o one) {
				holdPut(t, s, o.all[o.at])
				holdKept(t, s, o.all...)
				holdPinned(t, s, o.pinned...)
			})
			eachOne(t, room, many, func(s *Store, o one) {
				holdKeep(t, s, o.all[o.at])
				holdKept(t, s, o.all...)
			})
		}
	}
}

// P19.2: Put and Keep of a state that is kept, with room and without, that is pinned and that
// isn't: nothing changes, but that Keep pins it.
func TestPutAndKeepOfKept(t *testing.T) {
	r := rand.New(rand.NewSource(194))
	for _, room := range []int{2, 3, 4, 12, 100} {
		for _, many := range []int{1, (room + 1) / 2, room} {
			l := mixed(many)
			for _, at := range places(many) {
				for _, pinned := range [][]state.State{nil, l[:1], l[at : at+1], l[many-1:]} {
					s := kept(t, r, room, l, pinned)
					for range 3 {
						holdPut(t, s, l[at])
						holdKept(t, s, l...)
						holdPinned(t, s, pinned...)
					}
					for range 3 {
						holdKeep(t, s, l[at])
						holdKept(t, s, l...)
					}
				}
			}
		}
	}
}

// P19.2: a state that was given up and comes again is one that isn't kept: it may be given up
// again, itself, and is kept, if it is the pinned one, or if its key isn't the least any more.
func TestComesAgain(t *testing.T) {
	s := store(t, 2)
	fill(t, s, lengths(5, 6)...)
	holdPut(t, s, of(7), of(5))
	for range 3 {
		holdPut(t, s, of(5), of(5))
		holdKept(t, s, lengths(6, 7)...)
		holdNone(t, s, state.Hash(of(5)))
	}
	holdPin(t, s, state.Hash(of(5)), false)
	holdPinned(t, s)
	holdKeep(t, s, of(5), of(6))
	holdKept(t, s, lengths(5, 7)...)
	holdPut(t, s, of(6), of(6))
	holdKeep(t, s, of(6), of(5))
	holdKept(t, s, lengths(6, 7)...)
	holdPin(t, s, state.Hash(of(7)), true)
	holdPut(t, s, of(5), of(5))
	holdKeep(t, s, of(5), of(6))
	holdPin(t, s, state.Hash(of(7)), true)
	holdPut(t, s, of(6), of(5))
	holdKept(t, s, lengths(6, 7)...)
	holdPinned(t, s, of(7))
}

// P19.2: a pinned one that Keep gives up is none that is pinned, nor is it again when it comes
// again.
func TestPinnedGivenUp(t *testing.T) {
	s := store(t, 2)
	holdKeep(t, s, of(1))
	fill(t, s, of(2))
	holdKeep(t, s, of(3), of(1))
	holdKept(t, s, lengths(2, 3)...)
	holdPin(t, s, state.Hash(of(1)), false)
	holdPinned(t, s, of(3))
	holdPut(t, s, of(1), of(1))
	holdPinned(t, s, of(3))
	holdPut(t, s, of(4), of(2))
	holdPut(t, s, of(2), of(2))
	holdKept(t, s, lengths(3, 4)...)
}

// P19.2: Put and Keep of the zero state, whose key is among the least ones: it is kept and
// given up like any other.
func TestZeroState(t *testing.T) {
	zero := state.State{}
	for _, room := range []int{2, 3, 100} {
		l := upTo(room + 1)[1:]
		s := store(t, room)
		fill(t, s, zero)
		holdPut(t, s, zero)
		holdPinned(t, s)
		holdKept(t, s, zero)
		fill(t, s, l[:room-1]...)
		holdPut(t, s, zero)
		holdPut(t, s, l[room-1], zero)
		holdPut(t, s, zero, zero)
		holdNone(t, s, state.Hash(zero))
		holdKept(t, s, l...)
		holdKeep(t, s, zero, l[0])
		holdPut(t, s, l[0], l[0])
		holdKept(t, s, append([]state.State{zero}, l[1:]...)...)
		holdKeep(t, s, l[0], zero)
		holdKept(t, s, l...)
		s = store(t, room)
		holdKeep(t, s, zero)
		fill(t, s, l[:room-1]...)
		holdPut(t, s, l[room-1], l[0])
		holdKept(t, s, append([]state.State{zero}, l[1:]...)...)
		holdPinned(t, s, zero)
	}
}

// P19.2: Pin of each that is kept, one behind the other and again: it is pinned, and no other,
// so that of the others the one with the least key is given up.
func TestPin(t *testing.T) {
	for _, room := range []int{2, 3, 4, 12, 100} {
		l := mixed(room + 1)
		for _, at := range places(room) {
			s := store(t, room)
			holdPinned(t, s)
			holdPin(t, s, state.Hash(l[at]), false)
			holdPinned(t, s)
			fill(t, s, l[:room]...)
			holdPin(t, s, state.Hash(l[room]), false)
			holdPin(t, s, api.Hash{}, false)
			holdPinned(t, s)
			for _, before := range []int{0, room - 1, room / 2, at, at} {
				holdPin(t, s, state.Hash(l[before]), true)
				holdPinned(t, s, l[before])
			}
			for _, h := range []api.Hash{{}, state.Hash(l[room]), running(1), {31: 1}} {
				holdPin(t, s, h, false)
				holdPinned(t, s, l[at])
			}
			least := 0
			if at == 0 {
				least = 1
			}
			holdPut(t, s, l[room], l[least])
			holdKept(t, s, but(l, least)...)
			holdPin(t, s, state.Hash(l[least]), false)
			holdPinned(t, s, l[at])
			holdPin(t, s, state.Hash(l[room]), true)
			holdPinned(t, s, l[room])
		}
	}
}

// P19.2: the pinned one stays, however many greater ones come, until another one is pinned;
// then it is the next one to be given up.
func TestPinnedStays(t *testing.T) {
	for _, room := range []int{2, 3, 12, 100} {
		s := store(t, room)
		holdKeep(t, s, of(1))
		for n := range 3 * room {
			s.Put(of(uint32(10 + n)))
			holdGet(t, s, of(1))
			holdPinned(t, s, of(1))
		}
		holdPin(t, s, state.Hash(of(uint32(9+3*room))), true)
		holdPut(t, s, of(9), of(1))
		holdPut(t, s, of(8), of(8))
		holdPut(t, s, of(500), of(9))
		holdNone(t, s, state.Hash(of(1)))
	}
}

// P19.2: Pinned ahead of any Pin, behind Put and Keep with room and without, and behind Pin.
func TestPinned(t *testing.T) {
	s := store(t, 2)
	holdPinned(t, s)
	fill(t, s, of(5))
	holdPinned(t, s)
	fill(t, s, of(6))
	holdPut(t, s, of(7), of(5))
	holdPut(t, s, of(4), of(4))
	holdPinned(t, s)
	holdPin(t, s, state.Hash(of(4)), false)
	holdPinned(t, s)
	holdPin(t, s, state.Hash(of(6)), true)
	holdPinned(t, s, of(6))
	holdPut(t, s, of(8), of(7))
	holdPinned(t, s, of(6))
	holdPut(t, s, of(7), of(7))
	holdPinned(t, s, of(6))
	holdKeep(t, s, of(8))
	holdKeep(t, s, of(7), of(6))
	holdKeep(t, s, of(6), of(7))
	holdKeep(t, s, of(9), of(6))
	holdPin(t, s, state.Hash(of(8)), true)
	holdPinned(t, s, of(8))
	holdPin(t, s, state.Hash(of(6)), false)
	holdPinned(t, s, of(8))
	s = store(t, 3)
	holdKeep(t, s, of(3))
	holdKeep(t, s, of(2))
	holdKeep(t, s, of(1))
	holdPut(t, s, of(4), of(2))
	holdPinned(t, s, of(1))
}
