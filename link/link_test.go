package link

import (
	"bytes"
	"encoding/binary"
	"encoding/hex"
	"math"
	"math/rand"
	"testing"

	"almagest/api"
	"almagest/epoch"
	"almagest/grow"
	"almagest/ring"
	"almagest/state"
	"almagest/window"
)

const (
	greatest  = math.MaxUint32
	lastFirst = 4294967280 // the first slot of the greatest slot's epoch
)

// running tells the digest whose bytes are a number, and on from it.
func running(n byte) api.Hash {
	var h api.Hash
	for i := range h {
		h[i] = n + byte(i)
	}
	return h
}

// written tells the digest of hexadecimal digits.
func written(digits string) api.Hash {
	b, err := hex.DecodeString(digits)
	if err != nil || len(b) != 32 {
		panic(digits)
	}
	return api.Hash(b)
}

// of tells a window state.
func of(least, last, a, b, c, d uint32) window.Win {
	return window.Win{Min: least, Ring: ring.Ring{Last: last, Counts: [api.Subs]uint32{a, b, c, d}}}
}

// some tells data all digests of which are unlike, and unlike those of another number.
func some(n byte, length uint32) epoch.Data {
	return epoch.Data{Ledger: running(n), Seed: running(n + 1), Start: running(n + 2), Lock: running(n + 3), Length: length}
}

// at tells a state that is right, in a slot, of as few blocks as there may be.
func at(slot uint32) state.State {
	return state.State{
		Prev: running(70), Ledger: running(71), Draw: running(72), Slot: slot, Length: 1,
		Win: of(12, slot/3, 1, 1, 1, 1), Epochs: epoch.Pair{Now: some(80, 3), Next: some(90, 1)},
	}
}

// later tells a state that is right, all of which is unlike. Its slot, 40, has the epoch
// 1, the place 16, and the sub-window 13, of the ring place 1.
func later() state.State {
	s := at(40)
	s.Length, s.Count = 20, 1
	s.Win = of(9, 13, 2, 1, 3, 0)
	s.Epochs = epoch.Pair{Now: some(80, 3), Next: some(90, 5)}
	return s
}

// changed tells a state that is changed in one way.
func changed(s state.State, change func(*state.State)) state.State {
	change(&s)
	return s
}

// three is a chain of three states, of slots 3, 30 and 50, all of it written out; another
// program made the digests.
func three() []state.State {
	const (
		first, second, third = "ed22f684a48cf8063075fabfd5d9ba06285a739f65b77133d5cb042082abcda1",
			"85e57e90a5bccb3aa6a2c6f2e861fc91156704b6065c8e2d8ce80bcc776e7301",
			"710cf98c8f816fc993be9a23b5bec064fcc9bf089c60c4f866452696145d315e"
		seed, again, last = "f56f07caf0691256cc958b3ff4647c1a605a9ba1f8893d341715cf6c50694321",
			"c52383a614ab9e240c0452f7f0dcd2b174f7f6f407daad2cbec0426bd0522c61",
			"380387473cacbd2bcb79ce5136ed3b2bbe186760f83fdd1e22e5d40fe86e25b4"
	)
	begun := epoch.Data{Ledger: running(7), Length: 1}
	a := epoch.Data{Ledger: running(7), Seed: written(seed), Lock: written(first), Length: 2}
	b := epoch.Data{Ledger: running(20), Seed: written(again), Start: written(second), Lock: written(second), Length: 1}
	c := epoch.Data{Ledger: running(31), Seed: written(last), Start: written(third), Lock: written(third), Length: 1}
	return []state.State{
		{
			Prev: written(first), Ledger: running(20), Draw: running(60), Slot: 3, Length: 2, Count: 0,
			Win: of(12, 1, 1, 1, 3, 3), Epochs: epoch.Pair{Now: begun, Next: a},
		}, {
			Prev: written(second), Ledger: running(31), Draw: running(73), Slot: 30, Length: 3, Count: 1,
			Win: of(0, 10, 0, 0, 1, 0), Epochs: epoch.Pair{Now: a, Next: b},
		}, {
			Prev: written(third), Ledger: running(42), Draw: running(86), Slot: 50, Length: 4, Count: 2,
			Win: of(0, 16, 1, 0, 0, 0), Epochs: epoch.Pair{Now: b, Next: c},
		},
	}
}

// child tells the state behind a block, which must have no error.
func child(t *testing.T, parent state.State, slot uint32) state.State {
	t.Helper()
	c, failed := grow.Child(parent, grow.Block{Slot: slot, Ledger: running(101), Draw: running(102)})
	if failed != api.OK {
		t.Fatalf("slot %d, behind %v: %d", slot, parent, failed)
	}
	return c
}

// holdRight holds that a state is right, as a parent must be.
func holdRight(t *testing.T, s state.State) {
	t.Helper()
	if !state.Right(s) {
		t.Fatalf("not right: %v", s)
	}
}

// hold holds what is told of a parent that is right, and another state.
func hold(t *testing.T, parent, c state.State, want api.Errno) {
	t.Helper()
	holdRight(t, parent)
	if failed := Follows(parent, c); failed != want {
		t.Errorf("%v behind %v: %d; want %d", c, parent, failed, want)
	}
}

// chain tells the first state and children one behind the other, with ledgers and draws
// of their own.
func chain(t *testing.T, ledger api.Hash, slots ...uint32) []state.State {
	t.Helper()
	l := []state.State{state.Genesis(ledger)}
	for n, slot := range slots {
		c, failed := grow.Child(l[n], grow.Block{Slot: slot, Ledger: running(byte(11*n + 20)), Draw: running(byte(13*n + 60))})
		if failed != api.OK {
			t.Fatalf("%d: %d", slot, failed)
		}
		l = append(l, c)
	}
	return l
}

// laid tells a state's fields as bytes, one behind the other, as the struct has them.
func laid(t *testing.T, s state.State) []byte {
	t.Helper()
	b, err := binary.Append(nil, binary.BigEndian, s)
	if err != nil || len(b) != 396 {
		t.Fatal(len(b), err)
	}
	return b
}

// lifted tells the state of bytes that are so laid, whether it is right or not.
func lifted(t *testing.T, b []byte) state.State {
	t.Helper()
	var s state.State
	if err := binary.Read(bytes.NewReader(b), binary.BigEndian, &s); err != nil {
		t.Fatal(err)
	}
	return s
}

// parents tells states that are right, of all kinds of slots.
func parents() []state.State {
	all := append(three(), state.Genesis(running(7)), state.Genesis(api.Hash{}), later())
	for _, slot := range []uint32{0, 1, 2, 3, 11, 12, 15, 16, 22, 23, 24, 39, 40, 47, 48, 1000, 1<<31 - 1, 1 << 31, lastFirst - 1, lastFirst, greatest - 3, greatest - 1} {
		all = append(all, at(slot))
	}
	return all
}

// steps are how far a child is off: in the same sub-window and epoch, in the next ones,
// and far off.
var steps = []uint32{1, 2, 3, 4, 8, 11, 12, 13, 15, 16, 23, 24, 25, 47, 48, 1000, 1 << 30, 1 << 31}

// each asks of each parent, and each child that has room behind it.
func each(t *testing.T, ask func(parent, c state.State)) {
	t.Helper()
	for _, parent := range parents() {
		holdRight(t, parent)
		for _, by := range steps {
			if by <= greatest-parent.Slot {
				ask(parent, child(t, parent, parent.Slot+by))
			}
		}
		if parent.Slot < greatest {
			ask(parent, child(t, parent, greatest))
		}
		if t.Failed() {
			return // one fault would be told some hundred times
		}
	}
}

// P11.1: states that are written out, all of them, follow one another.
func TestWrittenOut(t *testing.T) {
	l := append([]state.State{state.Genesis(running(7))}, three()...)
	for n, c := range l[1:] {
		hold(t, l[n], c, api.OK)
		for other, parent := range l {
			want := api.OK
			switch {
			case other > n:
				want = api.ErrSlot
			case other < n:
				want = api.ErrLink
			}
			hold(t, parent, c, want)
		}
	}
}

// P11.1, P11.3: each child follows its parent, in the same sub-window and epoch, in the
// next ones and in far ones.
func TestEachChildFollows(t *testing.T) {
	many := 0
	each(t, func(parent, c state.State) {
		hold(t, parent, c, api.OK)
		holdRight(t, c)
		many++
	})
	if many < 300 {
		t.Errorf("only %d", many)
	}
}

// P11.1: a child with one field changed, but not what its block has.
func TestOneFieldChanged(t *testing.T) {
	for name, change := range map[string]func(s *state.State){
		"Prev":                 func(s *state.State) { s.Prev[0]++ },
		"no Prev":              func(s *state.State) { s.Prev = api.Hash{} },
		"Prev's end":           func(s *state.State) { s.Prev[31] ^= 0x80 },
		"Length, 1 more":       func(s *state.State) { s.Length++ },
		"Length, 1 less":       func(s *state.State) { s.Length-- },
		"Length 0":             func(s *state.State) { s.Length = 0 },
		"Length far off":       func(s *state.State) { s.Length ^= 1 << 31 },
		"Count, 1 more":        func(s *state.State) { s.Count++ },
		"Count, 1 less":        func(s *state.State) { s.Count-- },
		"Min, 1 more":          func(s *state.State) { s.Win.Min++ },
		"Min, 1 less":          func(s *state.State) { s.Win.Min-- },
		"Last, 1 more":         func(s *state.State) { s.Win.Ring.Last++ },
		"Last, 4 less":         func(s *state.State) { s.Win.Ring.Last -= 4 },
		"Counts 0":             func(s *state.State) { s.Win.Ring.Counts[0]++ },
		"Counts 1":             func(s *state.State) { s.Win.Ring.Counts[1]++ },
		"Counts 2":             func(s *state.State) { s.Win.Ring.Counts[2]++ },
		"Counts 3":             func(s *state.State) { s.Win.Ring.Counts[3]-- },
		"Now's Ledger":         func(s *state.State) { s.Epochs.Now.Ledger[1]++ },
		"Now's Seed":           func(s *state.State) { s.Epochs.Now.Seed[2]++ },
		"Now's Start":          func(s *state.State) { s.Epochs.Now.Start[3]++ },
		"Now's Lock":           func(s *state.State) { s.Epochs.Now.Lock[4]++ },
		"Now's Length, 1 more": func(s *state.State) { s.Epochs.Now.Length++ },
		"Now's Length, 1 less": func(s *state.State) { s.Epochs.Now.Length-- },
		"Next's Ledger":        func(s *state.State) { s.Epochs.Next.Ledger[27]++ },
		"Next's Seed":          func(s *state.State) { s.Epochs.Next.Seed[28]++ },
		"Next's Start":         func(s *state.State) { s.Epochs.Next.Start[29]++ },
		"Next's Lock":          func(s *state.State) { s.Epochs.Next.Lock[30]++ },
		"Next's Length, more":  func(s *state.State) { s.Epochs.Next.Length++ },
		"Next's Length, less":  func(s *state.State) { s.Epochs.Next.Length-- },
	} {
		each(t, func(parent, c state.State) {
			if failed := Follows(parent, changed(c, change)); failed != api.ErrLink {
				t.Errorf("slot %d, behind slot %d: %s: %d", c.Slot, parent.Slot, name, failed)
			}
		})
	}
}

// P11.1, P11.3: a child with any one bit of it changed, but those of what its block has:
// of all those states, which have one Slot, Ledger and Draw, one alone follows.
func TestAnyBitChanged(t *testing.T) {
	const block, behind = 32, 100 // where Ledger, Draw and Slot are laid
	for _, parent := range append(three(), later(), at(lastFirst-1)) {
		for _, by := range []uint32{1, 3, 14} {
			c := child(t, parent, parent.Slot+by)
			b := laid(t, c)
			for bit := range len(b) * 8 {
				if bit/8 >= block && bit/8 < behind {
					continue
				}
				b[bit/8] ^= 1 << (bit % 8)
				if failed := Follows(parent, lifted(t, b)); failed != api.ErrLink {
					t.Errorf("slot %d, behind slot %d: byte %d, bit %d: %d", c.Slot, parent.Slot, bit/8, bit%8, failed)
				}
				b[bit/8] ^= 1 << (bit % 8)
			}
			hold(t, parent, lifted(t, b), api.OK)
		}
	}
}

// P11.1: what its block has is the state's own: another Ledger alone makes a child of
// another block, which follows; another Draw does, too, where no seed is made of it.
func TestTheStatesOwnBlock(t *testing.T) {
	each(t, func(parent, c state.State) {
		for i := range 32 {
			hold(t, parent, changed(c, func(s *state.State) { s.Ledger[i] ^= 4 }), api.OK)
			want := api.ErrLink
			if c.Slot%24 >= 16 {
				want = api.OK
			}
			hold(t, parent, changed(c, func(s *state.State) { s.Draw[i] ^= 4 }), want)
		}
		hold(t, parent, changed(c, func(s *state.State) { s.Ledger = api.Hash{} }), api.OK)
	})
}

// P11.1: another Slot alone: a child still, where nothing hangs on which of them it is,
// else another one; or a slot that isn't behind the parent's.
func TestAnotherSlot(t *testing.T) {
	for _, c := range []struct {
		was, slot uint32
		want      api.Errno
	}{
		{48, 49, api.OK}, // the same sub-window, epoch, and a place that locks
		{48, 50, api.OK},
		{50, 48, api.OK},
		{48, 51, api.ErrLink}, // the next sub-window
		{48, 47, api.ErrLink}, // the one ahead
		{51, 50, api.ErrLink},
		{64, 65, api.OK},      // a sub-window that has places 15, 16 and 17
		{64, 63, api.ErrLink}, // place 15 locks
		{63, 64, api.ErrLink},
		{64, 66, api.ErrLink},
		{41, 42, api.ErrLink},
		{48, 60, api.ErrLink}, // the same place of the ring
		{48, 72, api.ErrLink}, // the next epoch
		{48, greatest, api.ErrLink},
		{48, 41, api.ErrLink},
		{48, 40, api.ErrSlot}, // the parent's
		{48, 39, api.ErrSlot},
		{48, 0, api.ErrSlot},
		{41, 40, api.ErrSlot},
		{greatest, greatest - 1, api.ErrLink}, // greatest stands alone in its sub-window
		{greatest, 0, api.ErrSlot},
	} {
		s := changed(child(t, later(), c.was), func(s *state.State) { s.Slot = c.slot })
		if failed := Follows(later(), s); failed != c.want {
			t.Errorf("slot %d for %d: %d; want %d", c.slot, c.was, failed, c.want)
		}
	}
}

// P11.1: a slot that isn't behind the parent's: the same one, the one before it, and
// others; and that this is told ahead of ErrLink: no such state is a child.
func TestSlotErrors(t *testing.T) {
	for _, parent := range append(parents(), at(greatest)) {
		for _, slot := range []uint32{parent.Slot, parent.Slot - 1, parent.Slot / 2, 0} {
			if slot > parent.Slot {
				continue // there is none before 0
			}
			hold(t, parent, changed(parent, func(s *state.State) { s.Slot = slot }), api.ErrSlot)
			hold(t, parent, at(slot), api.ErrSlot)
			hold(t, parent, state.State{Slot: slot}, api.ErrSlot)
			if parent.Slot < greatest {
				c := child(t, parent, parent.Slot+1)
				hold(t, parent, changed(c, func(s *state.State) { s.Slot = slot }), api.ErrSlot)
			}
		}
	}
	for _, parent := range parents() { // one more is no such fault
		hold(t, parent, at(parent.Slot+1), api.ErrLink)
	}
}

// P11.1: a Length that would not fit. There is but one slot whose state may be so long,
// and has a slot behind it. It is told ahead of ErrLink, behind ErrSlot.
func TestLengthErrors(t *testing.T) {
	for _, count := range []uint32{0, 1, 178956970} {
		parent := changed(at(greatest-1), func(s *state.State) { s.Length, s.Count = greatest-1, count })
		c := child(t, parent, greatest)
		hold(t, parent, c, api.OK)
		hold(t, parent, changed(c, func(s *state.State) { s.Length = 0 }), api.ErrLink)
		parent.Length = greatest
		for _, length := range []uint32{0, 1, greatest - 1, greatest} {
			hold(t, parent, changed(c, func(s *state.State) { s.Length = length }), api.ErrOver)
		}
		hold(t, parent, at(greatest), api.ErrOver)
		hold(t, parent, state.State{Slot: greatest}, api.ErrOver)
		hold(t, parent, at(greatest-1), api.ErrSlot)
		hold(t, parent, state.State{}, api.ErrSlot)
	}
}

// P11.1: a sub-window that has as many blocks as it has slots: told ahead of ErrLink, too.
func TestFullErrors(t *testing.T) {
	for _, slot := range []uint32{0, 12, 24, 39, 3000, 1<<31 - 2, lastFirst, greatest - 3} {
		parent := at(slot)
		last := child(t, parent, slot+2)
		hold(t, parent, last, api.OK)
		parent.Win.Ring.Counts[slot/3%4] = 3
		for _, to := range []uint32{slot + 1, slot + 2} {
			hold(t, parent, at(to), api.ErrFull)
			hold(t, parent, state.State{Slot: to}, api.ErrFull)
			hold(t, parent, changed(last, func(s *state.State) { s.Slot = to }), api.ErrFull)
		}
		hold(t, parent, at(slot), api.ErrSlot)
		hold(t, parent, at(slot+3), api.ErrLink)
		hold(t, parent, child(t, parent, slot+3), api.OK)
	}
}

// P11.1: the greatest slot: a state there follows, and none follows it.
func TestTheGreatestSlot(t *testing.T) {
	for _, parent := range parents() {
		if parent.Slot == greatest {
			t.Fatal("a parent has no slot behind it")
		}
		c := child(t, parent, greatest)
		hold(t, parent, c, api.OK)
		hold(t, parent, changed(c, func(s *state.State) { s.Win.Min++ }), api.ErrLink)
		for _, slot := range []uint32{greatest, greatest - 1, lastFirst, 1, 0} {
			hold(t, c, at(slot), api.ErrSlot)
		}
		hold(t, c, c, api.ErrSlot)
		hold(t, c, parent, api.ErrSlot)
	}
}

// P11.1: of a tree of states each one follows its own parent, and no other one.
func TestEachFollowsItsOwnParent(t *testing.T) {
	chance := rand.New(rand.NewSource(11))
	states := []state.State{state.Genesis(running(7)), state.Genesis(running(8)), later(), at(30)}
	stems := []int{-1, -1, -1, -1}
	for range 160 {
		stem := chance.Intn(len(states))
		b := grow.Block{Slot: states[stem].Slot + 1 + uint32(chance.Intn(20))}
		chance.Read(b.Ledger[:])
		chance.Read(b.Draw[:])
		c, failed := grow.Child(states[stem], b)
		if failed != api.OK {
			t.Fatal(failed)
		}
		states, stems = append(states, c), append(stems, stem)
	}
	met := map[api.Errno]int{}
	for i, parent := range states {
		for j, c := range states {
			want := api.ErrLink
			switch {
			case c.Slot <= parent.Slot:
				want = api.ErrSlot
			case stems[j] == i:
				want = api.OK
			}
			hold(t, parent, c, want)
			met[want]++
		}
	}
	if met[api.OK] != 160 || met[api.ErrLink] < 5000 || met[api.ErrSlot] < 5000 {
		t.Errorf("only these are met: %v", met)
	}
}

// P11.1: a state of another parent, though that one is like this one in all but one thing.
func TestAnotherParent(t *testing.T) {
	for name, change := range map[string]func(s *state.State){
		"Prev":   func(s *state.State) { s.Prev[9]++ },
		"Ledger": func(s *state.State) { s.Ledger[9]++ },
		"Draw":   func(s *state.State) { s.Draw[9]++ },
		"Slot":   func(s *state.State) { s.Slot-- },
		"Length": func(s *state.State) { s.Length++ },
		"Count":  func(s *state.State) { s.Count-- },
		"Min":    func(s *state.State) { s.Win.Min-- },
		"Counts": func(s *state.State) { s.Win.Ring.Counts[0]-- },
		"Now":    func(s *state.State) { s.Epochs.Now.Seed[9]++ },
		"Next":   func(s *state.State) { s.Epochs.Next.Length-- },
	} {
		other := changed(later(), change)
		holdRight(t, other)
		for _, by := range steps {
			hold(t, later(), child(t, other, 40+by), api.ErrLink)
			hold(t, other, child(t, later(), 40+by), api.ErrLink)
			hold(t, other, child(t, other, 40+by), api.OK)
		}
		if t.Failed() {
			t.Fatal(name)
		}
	}
	for _, by := range steps { // a child of a first state of another ledger
		hold(t, state.Genesis(running(7)), child(t, state.Genesis(running(8)), by), api.ErrLink)
		hold(t, state.Genesis(running(8)), child(t, state.Genesis(running(8)), by), api.OK)
	}
}

// P11.1: a child's child doesn't follow, nor does a parent follow its child.
func TestNotTheChildsChild(t *testing.T) {
	each(t, func(parent, c state.State) {
		if c.Slot == greatest {
			return
		}
		far := child(t, c, c.Slot+1)
		hold(t, parent, far, api.ErrLink)
		hold(t, c, parent, api.ErrSlot)
		hold(t, far, parent, api.ErrSlot)
		hold(t, c, far, api.OK)
	})
}

// P11.3: of two that follow one parent, with one Slot, Ledger and Draw, both are the same:
// of all pairs of ones that follow, and each that is like one of them but in one part.
func TestOneChildABlock(t *testing.T) {
	for _, parent := range parents() {
		known := map[grow.Block]state.State{}
		for _, by := range []uint32{1, 2, 3, 12, 24} {
			for n := range 24 {
				if by > greatest-parent.Slot {
					continue
				}
				c := child(t, parent, parent.Slot+by)
				switch n % 6 {
				case 1:
					c.Ledger = running(byte(n))
				case 2:
					c.Prev = running(byte(n))
				case 3:
					c.Epochs.Next.Seed = running(byte(n))
				case 4:
					c.Win.Min = uint32(n) % 13
				case 5:
					c.Length = uint32(n)
				}
				if Follows(parent, c) != api.OK {
					continue
				}
				b := grow.Block{Slot: c.Slot, Ledger: c.Ledger, Draw: c.Draw}
				if twin, is := known[b]; is && twin != c {
					t.Errorf("%v and %v follow %v", twin, c, parent)
				}
				known[b] = c
			}
		}
		if len(known) < 5 {
			t.Errorf("slot %d: only %d", parent.Slot, len(known))
		}
	}
}

// R1: it ends for whatever it is given, and what a parent that isn't right has of it is
// told by grow.Child.
func TestWhateverIsGiven(t *testing.T) {
	chance := rand.New(rand.NewSource(111))
	wrong := []state.State{{}, changed(later(), func(s *state.State) { s.Length = greatest }), changed(later(), func(s *state.State) { s.Win.Ring.Last = greatest })}
	for range 200 {
		b := make([]byte, 396)
		chance.Read(b)
		wrong = append(wrong, lifted(t, b))
	}
	for _, parent := range wrong {
		for _, c := range wrong {
			made, failed := grow.Child(parent, grow.Block{Slot: c.Slot, Ledger: c.Ledger, Draw: c.Draw})
			if failed == api.OK {
				failed = api.ErrLink
				if other := Follows(parent, made); other != api.OK {
					t.Errorf("%v behind %v: %d", made, parent, other)
				}
			}
			if got := Follows(parent, c); got != failed {
				t.Errorf("%v behind %v: %d; want %d", c, parent, got, failed)
			}
		}
	}
}

// R4, R5: the same calls answer the same, whatever was asked in between.
func TestFollowsTheSameAgain(t *testing.T) {
	type question struct{ parent, c state.State }
	var all []question
	for _, parent := range append(parents(), state.State{}) {
		all = append(all, question{parent, parent}, question{parent, later()}, question{parent, at(greatest)})
		if c, failed := grow.Child(parent, grow.Block{Slot: parent.Slot + 1}); failed == api.OK {
			all = append(all, question{parent, c}, question{c, parent}, question{parent, changed(c, func(s *state.State) { s.Length++ })})
		}
	}
	was := map[question]api.Errno{}
	for _, q := range all {
		was[q] = Follows(q.parent, q.c)
	}
	for i := range all {
		q := all[len(all)-1-i]
		if failed := Follows(q.parent, q.c); failed != was[q] {
			t.Errorf("%v: %d; was %d", q, failed, was[q])
		}
	}
}
