package grow

import (
	"crypto/sha256"
	"encoding/binary"
	"encoding/hex"
	"math"
	"math/rand"
	"slices"
	"testing"

	"almagest/api"
	"almagest/epoch"
	"almagest/ring"
	"almagest/state"
	"almagest/window"
)

const (
	greatest  = math.MaxUint32
	lastSub   = 1431655765 // the sub-window of the greatest slot, and of that one alone
	lastEpoch = 178956970  // its epoch; its place is 15
	lastFirst = 4294967280 // the first slot of that epoch
)

// running tells the digest whose bytes are a number, and on from it.
func running(n byte) api.Hash {
	var h api.Hash
	for i := range h {
		h[i] = n + byte(i)
	}
	return h
}

// seeded is the seed made of another one and a draw, byte by byte as it is told of.
func seeded(seed, draw api.Hash) api.Hash {
	image := []byte{4, 's', 'e', 'e', 'd', 2, 0, 0, 0, 32}
	image = append(image, seed[:]...)
	image = append(image, 0, 0, 0, 32)
	return sha256.Sum256(append(image, draw[:]...))
}

// digest is that of a state, whose fields are laid one behind the other as the struct has
// them; the chapter's order is the same.
func digest(t *testing.T, s state.State) api.Hash {
	t.Helper()
	image := []byte{5, 's', 't', 'a', 't', 'e', 1, 0, 0, 1, 140}
	image, err := binary.Append(image, binary.BigEndian, s)
	if err != nil || len(image) != 11+396 {
		t.Fatal(len(image), err)
	}
	return sha256.Sum256(image)
}

// some tells data all digests of which are unlike, and unlike those of another number.
func some(n byte, length uint32) epoch.Data {
	return epoch.Data{Ledger: running(n), Seed: running(n + 1), Start: running(n + 2), Lock: running(n + 3), Length: length}
}

// of tells a window state.
func of(least, last, a, b, c, d uint32) window.Win {
	return window.Win{Min: least, Ring: ring.Ring{Last: last, Counts: [api.Subs]uint32{a, b, c, d}}}
}

// at tells a state that is right, in a slot, of as few blocks as there may be.
func at(slot uint32) state.State {
	s := state.State{Prev: running(70), Ledger: running(71), Draw: running(72), Slot: slot, Length: 1}
	s.Win = of(12, slot/3, 1, 1, 1, 1)
	s.Epochs = epoch.Pair{Now: some(80, 3), Next: some(90, 1)}
	return s
}

// later tells a state that is right, all of which is unlike. Its slot, 40, has the epoch
// 1, the place 16, and the sub-window 13, of the ring place 1.
func later() state.State {
	s := at(40)
	s.Length, s.Count = 20, 1
	s.Win = of(9, 13, 2, 1, 3, 0)
	s.Epochs = epoch.Pair{Now: some(80, 3), Next: some(90, 5)}
	return s
}

// block tells a block of which all is unlike what later has.
func block(slot uint32) Block { return Block{slot, running(101), running(102)} }

// changed tells a state that is changed in one way.
func changed(s state.State, change func(*state.State)) state.State {
	change(&s)
	return s
}

// spread tells how many blocks each sub-window up to Last has of which a ring tells. The
// numbers go below 0, for there are ones ahead of 0.
func spread(r ring.Ring) map[int64]uint32 {
	blocks := map[int64]uint32{}
	for sub := int64(r.Last) - 3; sub <= int64(r.Last); sub++ {
		blocks[sub] = r.Counts[sub&3]
	}
	return blocks
}

// put tells what a window state that is right becomes by a block, by counting in the
// sub-windows of which its ring tells.
func put(w window.Win, slot uint32) (window.Win, api.Errno) {
	blocks, last, sub := spread(w.Ring), int64(w.Ring.Last), int64(slot)/3
	if sub < last {
		return window.Win{}, api.ErrSlot
	}
	if sub == last && blocks[sub] == 3 {
		return window.Win{}, api.ErrFull
	}
	if sub > last && slot >= 12 {
		w.Min = min(w.Min, blocks[sub-4]+blocks[sub-3]+blocks[sub-2]+blocks[sub-1])
	}
	blocks[sub]++
	w.Ring = ring.Ring{Last: uint32(sub)}
	for n := sub - 3; n <= sub; n++ {
		w.Ring.Counts[n&3] = blocks[n]
	}
	return w, api.OK
}

// follow tells what a state's pair becomes by a block, by the chapter's words.
func follow(p epoch.Pair, turns, locks bool, prev, ledger, draw api.Hash) epoch.Pair {
	out := epoch.Pair{Now: p.Now, Next: p.Next}
	if turns {
		out.Now = p.Next
		out.Next = epoch.Data{Ledger: ledger, Seed: p.Next.Seed, Start: prev}
	}
	out.Next.Length++
	if locks {
		out.Next.Seed, out.Next.Lock = seeded(p.Next.Seed, draw), prev
	}
	return out
}

// told tells the child of a state, right or not, a part at a time in numbers of 64 bits.
func told(t *testing.T, s state.State, b Block) (state.State, api.Errno) {
	t.Helper()
	from, to := int64(s.Slot), int64(b.Slot)
	turns, locks := to/24 > from/24, to%24 < 16
	length, count := int64(s.Length)+1, int64(s.Count)
	if turns {
		count++
	}
	if to < from+1 {
		return state.State{}, api.ErrSlot
	}
	if length > greatest || count > greatest {
		return state.State{}, api.ErrOver
	}
	win, failed := put(s.Win, b.Slot)
	if failed != api.OK {
		return state.State{}, failed
	}
	if !turns && s.Epochs.Next.Length == greatest {
		return state.State{}, api.ErrOver
	}
	prev := digest(t, s)
	return state.State{
		Prev: prev, Ledger: b.Ledger, Draw: b.Draw,
		Slot: b.Slot, Length: uint32(length), Count: uint32(count),
		Win: win, Epochs: follow(s.Epochs, turns, locks, prev, s.Ledger, b.Draw),
	}, api.OK
}

// may tells whether a state is right, word by word, in numbers of 64 bits.
func may(s state.State) bool {
	slot, length, next := int64(s.Slot), int64(s.Length), int64(s.Epochs.Next.Length)
	for place, count := range s.Win.Ring.Counts {
		if count > 3 || count < 1 && place == int(slot/3&3) {
			return false
		}
	}
	return s.Win.Min < 13 && int64(s.Win.Ring.Last) == slot/3 &&
		length > 0 && length < slot+2 &&
		int64(s.Count) < slot/24+1 && int64(s.Count) < length &&
		next > 0 && next < length+1 && next < slot%24+2
}

// same holds a state against what it must be, each field by itself, and tells whether it is.
func same(t *testing.T, got, want state.State) bool {
	t.Helper()
	for _, f := range []struct {
		name      string
		got, want any
	}{
		{"Prev", got.Prev, want.Prev},
		{"Ledger", got.Ledger, want.Ledger},
		{"Draw", got.Draw, want.Draw},
		{"Slot", got.Slot, want.Slot},
		{"Length", got.Length, want.Length},
		{"Count", got.Count, want.Count},
		{"Min", got.Win.Min, want.Win.Min},
		{"Last", got.Win.Ring.Last, want.Win.Ring.Last},
		{"counts", got.Win.Ring.Counts, want.Win.Ring.Counts},
		{"Now's Ledger", got.Epochs.Now.Ledger, want.Epochs.Now.Ledger},
		{"Now's Seed", got.Epochs.Now.Seed, want.Epochs.Now.Seed},
		{"Now's Start", got.Epochs.Now.Start, want.Epochs.Now.Start},
		{"Now's Lock", got.Epochs.Now.Lock, want.Epochs.Now.Lock},
		{"Now's Length", got.Epochs.Now.Length, want.Epochs.Now.Length},
		{"Next's Ledger", got.Epochs.Next.Ledger, want.Epochs.Next.Ledger},
		{"Next's Seed", got.Epochs.Next.Seed, want.Epochs.Next.Seed},
		{"Next's Start", got.Epochs.Next.Start, want.Epochs.Next.Start},
		{"Next's Lock", got.Epochs.Next.Lock, want.Epochs.Next.Lock},
		{"Next's Length", got.Epochs.Next.Length, want.Epochs.Next.Length},
	} {
		if f.got != f.want {
			t.Errorf("slot %d, %s: %v; want %v", want.Slot, f.name, f.got, f.want)
		}
	}
	return got == want
}

// holdRight holds that a state is right, as it must be ahead of Child.
func holdRight(t *testing.T, s state.State) {
	t.Helper()
	if !state.Right(s) || !may(s) {
		t.Fatalf("not right: %v", s)
	}
}

// hold holds the child of a state that is right against what is told of it.
func hold(t *testing.T, s state.State, b Block) (state.State, api.Errno) {
	t.Helper()
	holdRight(t, s)
	want, wantFailed := told(t, s, b)
	got, failed := Child(s, b)
	if failed != wantFailed || got != want {
		t.Errorf("slot %d, behind %v: %d; want %d", b.Slot, s, failed, wantFailed)
		same(t, got, want)
	}
	return got, failed
}

// refuse holds that a block has an error, beside which the state is the zero one.
func refuse(t *testing.T, s state.State, slot uint32, want api.Errno) {
	t.Helper()
	for _, b := range []Block{block(slot), {Slot: slot}} {
		if got, failed := Child(s, b); got != (state.State{}) || failed != want {
			t.Errorf("slot %d, behind %v: %v, %d; want %d", slot, s, got, failed, want)
		}
	}
}

// takes holds that a block has none.
func takes(t *testing.T, s state.State, slot uint32) {
	t.Helper()
	if _, failed := hold(t, s, block(slot)); failed != api.OK {
		t.Errorf("slot %d, behind %v: %d", slot, s, failed)
	}
}

// row tells blocks of slots, no digests of which are alike.
func row(slots ...uint32) []Block {
	var l []Block
	for n, s := range slots {
		l = append(l, Block{s, running(byte(11*n + 20)), running(byte(13*n + 60))})
	}
	return l
}

// P10.1, P10.2: the chapter's example, by Chain, and by Child one behind the other.
func TestExample(t *testing.T) {
	l := row(3, 30, 50)
	chained, came, failed := Chain(running(7), l)
	if chained.Slot != 50 || chained.Length != 4 || chained.Count != 2 || came != 3 || failed != api.OK {
		t.Errorf("%v, %d, %d", chained, came, failed)
	}
	s := state.Genesis(running(7))
	for n, want := range []struct{ slot, length, count uint32 }{{3, 2, 0}, {30, 3, 1}, {50, 4, 2}} {
		s, failed = Child(s, l[n])
		if s.Slot != want.slot || s.Length != want.length || s.Count != want.count || failed != api.OK {
			t.Errorf("%v, %d; want %v", s, failed, want)
		}
	}
	if s != chained {
		t.Errorf("by Child %v, by Chain %v", s, chained)
	}
}

// P10.1: all fields of a child of the first state; by the slot, what epochs and windows tell.
func TestChildOfTheFirst(t *testing.T) {
	g := state.Genesis(running(7))
	prev := digest(t, g)
	stays := epoch.Data{Ledger: running(7), Length: 2}
	locks := epoch.Data{Ledger: running(7), Seed: seeded(api.Hash{}, running(102)), Lock: prev, Length: 2}
	begins := epoch.Data{Ledger: running(7), Start: prev, Length: 1}
	both := epoch.Data{Ledger: running(7), Seed: seeded(api.Hash{}, running(102)), Start: prev, Lock: prev, Length: 1}
	for _, c := range []struct {
		slot, count uint32
		win         window.Win
		next        epoch.Data
	}{
		{1, 0, of(12, 0, 2, 3, 3, 3), locks}, // the same sub-window
		{2, 0, of(12, 0, 2, 3, 3, 3), locks},
		{3, 0, of(12, 1, 1, 1, 3, 3), locks}, // the next one
		{5, 0, of(12, 1, 1, 1, 3, 3), locks},
		{8, 0, of(12, 2, 1, 0, 1, 3), locks}, // further off
		{11, 0, of(12, 3, 1, 0, 0, 1), locks},
		{12, 0, of(1, 4, 1, 0, 0, 0), locks},
		{14, 0, of(1, 4, 1, 0, 0, 0), locks},
		{15, 0, of(0, 5, 0, 1, 0, 0), locks},
		{16, 0, of(0, 5, 0, 1, 0, 0), stays}, // not locking
		{23, 0, of(0, 7, 0, 0, 0, 1), stays},
		{24, 1, of(0, 8, 1, 0, 0, 0), both}, // the next epoch
		{39, 1, of(0, 13, 0, 1, 0, 0), both},
		{40, 1, of(0, 13, 0, 1, 0, 0), begins},
		{47, 1, of(0, 15, 0, 0, 0, 1), begins},
		{48, 1, of(0, 16, 1, 0, 0, 0), both}, // far ahead
		{1000, 1, of(0, 333, 0, 1, 0, 0), begins},
		{1 << 31, 1, of(0, 715827882, 0, 0, 1, 0), both},
		{lastFirst - 1, 1, of(0, lastSub-6, 0, 0, 0, 1), begins},
		{greatest, 1, of(0, lastSub, 0, 1, 0, 0), both},
	} {
		want := state.State{
			Prev: prev, Ledger: running(101), Draw: running(102),
			Slot: c.slot, Length: 2, Count: c.count, Win: c.win,
			// What Next was at first is what Now was.
			Epochs: epoch.Pair{Now: epoch.Data{Ledger: running(7), Length: 1}, Next: c.next},
		}
		got, failed := Child(g, block(c.slot))
		if !same(t, got, want) || failed != api.OK {
			t.Errorf("slot %d: %d", c.slot, failed)
		}
		hold(t, g, block(c.slot))
	}
}

// P10.1: all fields of a child of a later state, likewise.
func TestChildOfALater(t *testing.T) {
	s := later()
	prev, seed := digest(t, s), seeded(running(91), running(102))
	stays := epoch.Pair{Now: some(80, 3), Next: some(90, 6)}
	begins := epoch.Pair{Now: some(90, 5), Next: epoch.Data{Ledger: running(71), Seed: running(91), Start: prev, Length: 1}}
	both := epoch.Pair{Now: some(90, 5), Next: epoch.Data{Ledger: running(71), Seed: seed, Start: prev, Lock: prev, Length: 1}}
	for _, c := range []struct {
		slot, count uint32
		win         window.Win
		epochs      epoch.Pair
	}{
		{41, 1, of(9, 13, 2, 2, 3, 0), stays}, // the same sub-window
		{42, 1, of(6, 14, 2, 1, 1, 0), stays}, // the next one
		{44, 1, of(6, 14, 2, 1, 1, 0), stays},
		{45, 1, of(3, 15, 2, 1, 0, 1), stays}, // further off
		{47, 1, of(3, 15, 2, 1, 0, 1), stays},
		{48, 2, of(3, 16, 1, 1, 0, 0), both}, // the next epoch
		{51, 2, of(1, 17, 0, 1, 0, 0), both},
		{54, 2, of(0, 18, 0, 0, 1, 0), both},
		{63, 2, of(0, 21, 0, 1, 0, 0), both},
		{64, 2, of(0, 21, 0, 1, 0, 0), begins},
		{71, 2, of(0, 23, 0, 0, 0, 1), begins},
		{72, 2, of(0, 24, 1, 0, 0, 0), both}, // far ahead
		{1000, 2, of(0, 333, 0, 1, 0, 0), begins},
		{1 << 31, 2, of(0, 715827882, 0, 0, 1, 0), both},
		{lastFirst - 1, 2, of(0, lastSub-6, 0, 0, 0, 1), begins},
		{greatest, 2, of(0, lastSub, 0, 1, 0, 0), both},
	} {
		want := state.State{
			Prev: prev, Ledger: running(101), Draw: running(102),
			Slot: c.slot, Length: 21, Count: c.count, Win: c.win, Epochs: c.epochs,
		}
		got, failed := Child(s, block(c.slot))
		if !same(t, got, want) || failed != api.OK {
			t.Errorf("slot %d: %d", c.slot, failed)
		}
		hold(t, s, block(c.slot))
	}
}

// P10.1: a child in the locking part of its parent's epoch: Start stays, Lock moves.
func TestChildThatLocks(t *testing.T) {
	s := changed(later(), func(s *state.State) { s.Slot, s.Win, s.Epochs.Next.Length = 25, of(9, 8, 2, 1, 3, 0), 2 })
	prev := digest(t, s)
	next := epoch.Data{Ledger: running(90), Seed: seeded(running(91), running(102)), Start: running(92), Lock: prev, Length: 3}
	for slot, win := range map[uint32]window.Win{
		26: of(9, 8, 3, 1, 3, 0),
		27: of(6, 9, 2, 1, 3, 0),
		39: of(0, 13, 0, 1, 0, 0),
	} {
		want := state.State{
			Prev: prev, Ledger: running(101), Draw: running(102),
			Slot: slot, Length: 21, Count: 1, Win: win, Epochs: epoch.Pair{Now: some(80, 3), Next: next},
		}
		holdRight(t, s)
		got, failed := Child(s, block(slot))
		if !same(t, got, want) || failed != api.OK {
			t.Errorf("slot %d: %d", slot, failed)
		}
	}
}

// P10.1: Prev is the parent's digest, so that all of a parent is in it.
func TestPrevIsTheParents(t *testing.T) {
	digests := map[api.Hash]bool{}
	all := []func(*state.State){
		func(s *state.State) {},
		func(s *state.State) { s.Prev[31] ^= 1 },
		func(s *state.State) { s.Ledger[0] ^= 128 },
		func(s *state.State) { s.Draw[9] ^= 2 },
		func(s *state.State) { s.Slot = 39 },
		func(s *state.State) { s.Length++ },
		func(s *state.State) { s.Count-- },
		func(s *state.State) { s.Win.Min-- },
		func(s *state.State) { s.Win.Ring.Counts[2]-- },
		func(s *state.State) { s.Epochs.Now.Length++ },
		func(s *state.State) { s.Epochs.Now.Seed[3] ^= 1 },
		func(s *state.State) { s.Epochs.Next.Lock[31] ^= 1 },
		func(s *state.State) { s.Epochs.Next.Length++ },
	}
	for _, change := range all {
		s := changed(later(), change)
		holdRight(t, s)
		child, failed := Child(s, block(41))
		if child.Prev != digest(t, s) || child.Prev != state.Hash(s) || failed != api.OK {
			t.Errorf("%v: Prev %x, %d", s, child.Prev, failed)
		}
		digests[child.Prev] = true
	}
	if len(digests) != len(all) {
		t.Errorf("%d of %d are unlike", len(digests), len(all))
	}
}

// P10.1: the pair is the parent's behind the block of which the chapter speaks.
func TestEpochsFollow(t *testing.T) {
	for _, s := range []state.State{state.Genesis(running(7)), later(), at(23), at(1 << 31)} {
		for by := range uint32(80) {
			b := block(s.Slot + 1 + by)
			want, failed := epoch.Follow(s.Epochs, epoch.Block{
				From: s.Slot, To: b.Slot, Prev: digest(t, s), Ledger: s.Ledger, Draw: b.Draw,
			})
			child, wrong := Child(s, b)
			if child.Epochs != want || failed != api.OK || wrong != api.OK {
				t.Errorf("from %d to %d: %v, %d; want %v", s.Slot, b.Slot, child.Epochs, wrong, want)
			}
		}
	}
}

// P10.1: the block's ledger is the child's own alone; its draw makes a seed only where
// the slot is locking; the parent's ledger is a later epoch's.
func TestWhatCounts(t *testing.T) {
	for slot := uint32(41); slot < 100; slot++ {
		b := block(slot)
		was, _ := Child(later(), b)

		want := was
		b.Ledger[5] ^= 1
		want.Ledger = b.Ledger
		if got, _ := Child(later(), b); got != want {
			t.Errorf("slot %d: by the block's ledger: %v; want %v", slot, got, want)
		}

		b, want = block(slot), was
		b.Draw[31] ^= 1
		want.Draw = b.Draw
		if slot%24 < 16 {
			want.Epochs.Next.Seed = seeded(running(91), b.Draw)
		}
		if got, _ := Child(later(), b); got != want {
			t.Errorf("slot %d: by the block's draw: %v; want %v", slot, got, want)
		}

		s := changed(later(), func(s *state.State) { s.Ledger[5] ^= 1 })
		got, _ := Child(s, block(slot))
		if ledger := got.Epochs.Next.Ledger; slot < 48 && ledger != running(90) || slot >= 48 && ledger != s.Ledger {
			t.Errorf("slot %d: by the parent's ledger: %x", slot, ledger)
		}
	}
}

// P10.1: a slot that isn't behind the state's: that one, the one ahead of it, and others.
func TestSlotErrors(t *testing.T) {
	for _, s := range []state.State{later(), at(1), at(3), at(23), at(24), at(47), at(1 << 31), at(lastFirst), at(greatest - 1), at(greatest)} {
		holdRight(t, s)
		for _, slot := range []uint32{s.Slot, s.Slot - 1, s.Slot / 2, 0} {
			refuse(t, s, slot, api.ErrSlot)
		}
		if s.Slot < greatest {
			takes(t, s, s.Slot+1)
		}
	}
	refuse(t, state.Genesis(running(7)), 0, api.ErrSlot)
	takes(t, state.Genesis(running(7)), 1)
}

// P10.1: a Length that would not fit. There is but one slot whose state may be so long,
// and has a slot behind it.
func TestLengthErrors(t *testing.T) {
	for _, count := range []uint32{0, 1, lastEpoch} {
		for _, next := range []uint32{1, 15} {
			s := changed(at(greatest-1), func(s *state.State) { s.Length, s.Count, s.Epochs.Next.Length = greatest, count, next })
			holdRight(t, s)
			refuse(t, s, greatest, api.ErrOver)
			s.Length--
			if child, failed := hold(t, s, block(greatest)); child.Length != greatest || failed != api.OK {
				t.Errorf("%v, %d", child, failed)
			}
		}
	}
}

// P10.1: the greatest Count that a state that is right may have fits, and 1 more does.
func TestGreatestCount(t *testing.T) {
	for _, slot := range []uint32{lastFirst - 1, lastFirst - 24} {
		s := changed(at(slot), func(s *state.State) { s.Length, s.Count = slot, lastEpoch-1 })
		child, failed := hold(t, s, block(lastFirst+3))
		if child.Count != lastEpoch || failed != api.OK {
			t.Errorf("%v, %d", child, failed)
		}
		if child, failed = hold(t, child, block(greatest)); child.Count != lastEpoch || failed != api.OK {
			t.Errorf("%v, %d", child, failed)
		}
	}
}

// P10.1: a block in a sub-window that has as many as it has slots: window.Put's error.
func TestFullErrors(t *testing.T) {
	for _, slot := range []uint32{0, 12, 24, 39, 3000, 1<<31 - 2, lastFirst, greatest - 3} {
		for off := range uint32(2) {
			s := changed(at(slot+off), func(s *state.State) { s.Win.Ring.Counts[slot/3%4] = 3 })
			holdRight(t, s)
			for to := s.Slot + 1; to < slot+3; to++ {
				refuse(t, s, to, api.ErrFull)
			}
			takes(t, s, slot+3) // the next sub-window
			s.Win.Ring.Counts[slot/3%4] = 2
			takes(t, s, slot+2)
		}
	}
}

// P10.1: of two errors the one that is named first is told, as far as states that are
// right have two.
func TestTwoErrors(t *testing.T) {
	full := changed(later(), func(s *state.State) { s.Win.Ring.Counts[1] = 3 })
	long := changed(at(greatest-1), func(s *state.State) { s.Length = greatest })
	all := changed(at(greatest), func(s *state.State) { s.Length, s.Win.Ring.Counts[1] = greatest, 3 })
	for _, s := range []state.State{full, long, all} {
		holdRight(t, s)
		for _, slot := range []uint32{s.Slot, s.Slot - 1, 39, 0} {
			refuse(t, s, slot, api.ErrSlot)
		}
	}
	refuse(t, full, 41, api.ErrFull)
	refuse(t, long, greatest, api.ErrOver)
}

// P10.1: errors that no state that is right can meet: the chapter's order holds there, too.
func TestErrorsOfWrongStates(t *testing.T) {
	for name, c := range map[string]struct {
		change func(s *state.State)
		slot   uint32
		want   api.Errno
	}{
		"Length":                   {func(s *state.State) { s.Length = greatest }, 41, api.ErrOver},
		"Length, far ahead":        {func(s *state.State) { s.Length = greatest }, 1000, api.ErrOver},
		"Count, the next epoch":    {func(s *state.State) { s.Count = greatest }, 48, api.ErrOver},
		"Count, far ahead":         {func(s *state.State) { s.Count = greatest }, greatest, api.ErrOver},
		"Count, the same epoch":    {func(s *state.State) { s.Count = greatest }, 47, api.OK},
		"Count that just fits":     {func(s *state.State) { s.Count = greatest - 1 }, 48, api.OK},
		"Last behind":              {func(s *state.State) { s.Win.Ring.Last = 14 }, 41, api.ErrSlot},
		"Next":                     {func(s *state.State) { s.Epochs.Next.Length = greatest }, 41, api.ErrOver},
		"Next, the next epoch":     {func(s *state.State) { s.Epochs.Next.Length = greatest }, 48, api.OK},
		"Length, full":             {func(s *state.State) { s.Length, s.Win.Ring.Counts[1] = greatest, 3 }, 41, api.ErrOver},
		"Length, Last behind":      {func(s *state.State) { s.Length, s.Win.Ring.Last = greatest, 14 }, 41, api.ErrOver},
		"Count, Last behind":       {func(s *state.State) { s.Count, s.Win.Ring.Last = greatest, 17 }, 48, api.ErrOver},
		"Last behind, Next":        {func(s *state.State) { s.Epochs.Next.Length, s.Win.Ring.Last = greatest, 14 }, 41, api.ErrSlot},
		"full, Next":               {func(s *state.State) { s.Epochs.Next.Length, s.Win.Ring.Counts[1] = greatest, 3 }, 41, api.ErrFull},
		"slot, Length, Next":       {func(s *state.State) { s.Epochs.Next.Length, s.Length = greatest, greatest }, 40, api.ErrSlot},
		"slot, Count, Last behind": {func(s *state.State) { s.Count, s.Win.Ring.Last = greatest, 17 }, 39, api.ErrSlot},
	} {
		s := changed(later(), c.change)
		want, wantFailed := told(t, s, block(c.slot))
		if wantFailed != c.want {
			t.Errorf("%s: the test's own words are %d; want %d", name, wantFailed, c.want)
		}
		if got, failed := Child(s, block(c.slot)); got != want || failed != c.want {
			t.Errorf("%s: %v, %d; want %v, %d", name, got, failed, want, c.want)
		}
	}
}

// P10.1, P10.3: up to the greatest slot, behind which there is none.
func TestTheGreatestSlot(t *testing.T) {
	s := state.Genesis(running(7))
	for _, slot := range []uint32{1 << 31, lastFirst - 1, lastFirst, greatest - 1, greatest} {
		var failed api.Errno
		if s, failed = hold(t, s, block(slot)); failed != api.OK {
			t.Fatalf("slot %d: %d", slot, failed)
		}
		holdRight(t, s)
	}
	if s.Slot != greatest || s.Length != 6 || s.Count != 3 || s.Win != of(0, lastSub, 1, 1, 0, 0) || s.Epochs.Next.Length != 3 {
		t.Errorf("%v", s)
	}
	for _, slot := range []uint32{greatest, greatest - 1, 1 << 31, 0} {
		refuse(t, s, slot, api.ErrSlot)
	}
}

// rights tells states that are right, of all slots about bounds, and of chance.
func rights(chance *rand.Rand, many int) []state.State {
	var slots []uint32
	for n := range uint32(60) {
		slots = append(slots, n, 1<<31-30+n, greatest-n)
	}
	var all []state.State
	for range many {
		s := at(slots[chance.Intn(len(slots))])
		if chance.Intn(4) == 0 {
			s = at(chance.Uint32())
		}
		s.Win.Min = uint32(chance.Intn(13))
		for place := range s.Win.Ring.Counts {
			s.Win.Ring.Counts[place] = uint32(chance.Intn(4))
		}
		s.Win.Ring.Counts[s.Slot/3%4] = 1 + uint32(chance.Intn(3))
		s.Length = upTo(chance, 1, int64(s.Slot)+1)
		s.Count = upTo(chance, 0, min(int64(s.Slot/24), int64(s.Length)-1))
		s.Epochs.Next.Length = upTo(chance, 1, min(int64(s.Slot%24)+1, int64(s.Length)))
		chance.Read(s.Prev[:])
		chance.Read(s.Epochs.Next.Seed[:])
		all = append(all, s)
	}
	return all
}

// upTo tells a number between bounds: often one of them.
func upTo(chance *rand.Rand, least, most int64) uint32 {
	most = min(most, greatest)
	switch chance.Intn(4) {
	case 0:
		return uint32(least)
	case 1:
		return uint32(most)
	}
	return uint32(least + chance.Int63n(most-least+1))
}

// P10.1, P10.3: children of states that are right, whether a history has them or not,
// against what is told of them; a child is right again.
func TestAllChildren(t *testing.T) {
	chance := rand.New(rand.NewSource(10))
	met := map[api.Errno]int{}
	for _, s := range rights(chance, 4000) {
		for _, by := range []uint32{0, greatest, 1, 2, 3, 1 + uint32(chance.Intn(12)), 24, 1 + uint32(chance.Intn(60)), greatest - s.Slot} {
			b := Block{Slot: s.Slot + by}
			chance.Read(b.Ledger[:])
			chance.Read(b.Draw[:])
			child, failed := hold(t, s, b)
			if failed == api.OK {
				holdRight(t, child)
			}
			if t.Failed() {
				return // one fault would be told some thousand times
			}
			met[failed]++
		}
	}
	if met[api.OK] < 10000 || met[api.ErrSlot] < 1000 || met[api.ErrFull] < 500 || met[api.ErrOver] < 5 || len(met) != 4 {
		t.Errorf("only these are met: %v", met)
	}
}

// P10.1, P10.2: digests of whole chains that another program made, all states of them.
func TestDigestsWrittenOut(t *testing.T) {
	for _, c := range []struct {
		slots []uint32
		want  []string
	}{
		{[]uint32{3, 30, 50}, []string{
			"ed22f684a48cf8063075fabfd5d9ba06285a739f65b77133d5cb042082abcda1",
			"85e57e90a5bccb3aa6a2c6f2e861fc91156704b6065c8e2d8ce80bcc776e7301",
			"710cf98c8f816fc993be9a23b5bec064fcc9bf089c60c4f866452696145d315e",
			"1e008e8ac0dfce3830233b5d9a2904dd587cace49f6d37c9614348a8111a1188",
		}},
		{[]uint32{1, 2, 3, 5, 12, 16, 23, 24, 41, 47, 100, 1 << 31, lastFirst, greatest - 1, greatest}, []string{
			"ed22f684a48cf8063075fabfd5d9ba06285a739f65b77133d5cb042082abcda1",
			"708975973edd700044d72be408f7b4ed91a34851fad43d40bf1dc69dc4e9b67d",
			"5a75608e26de985b42bf0d9ffbf7a8da559e7bb936c041ae1e9b9b5a578de7c7",
			"cf56bf98c31815fc8ff6dc82d8a86adb03eb47d38f08969c885f17f8c1199619",
			"c4f4ff03f870ccc4bb98aca54dd06be4121ecb8a991c8d245a8a3dd33d67a99a",
			"7a3cfb66c98ff9668723bcd8346074e2738a44be2ec73c8be27c8ab4bc716977",
			"59f9caf9fc951d331b105a23a094598f829ab9766e0d796d66d3c8f0048dd2b6",
			"9ab6c092d1ddb9687b82528416380ffd66af484af8e1fa34f89f6d0527ccef7b",
			"5faab2f1e7a6c9b24363a6290fa5dd48e2f79891862acc1b3c208412aa189bae",
			"fd52987f5c5f0c2cee3da8b947cd92b9a04378add65a1d3d4bba0e5332f256ee",
			"bf546ea45180f727adaccc92abbc2b3a63d3060de54c0da380f7db7dc1d81d25",
			"b4ac1a674e47cc60589b50fe01384d2a614365cd57e11fc5a7464875898a96ab",
			"2a34eb201c13790399f70490c3b3d5726e88ea7eabbb2a74f7dc6d7577974ba5",
			"d1ab5b084938b2548f5a23f7cba822009c07b9bbef0532beec7bc7e19be8d6d1",
			"5adbb751366beb37c4f6778dbf7abdef576bff1845be97df2c7a78d88dd9d170",
			"19f82e91d64ac29e8ad51c6dbecfa9bb6c72c1e318c4661260c782c7459b83f3",
		}},
	} {
		for n, want := range c.want {
			s, came, failed := Chain(running(7), row(c.slots...)[:n])
			if got := digest(t, s); hex.EncodeToString(got[:]) != want || came != n || failed != api.OK {
				t.Errorf("%d: %x, %d, %d; want %s", c.slots[:n], got, came, failed, want)
			}
		}
	}
}

// P10.2, R6: of no blocks, whether there is a list or none: the first state.
func TestChainOfNone(t *testing.T) {
	for _, ledger := range []api.Hash{{}, {1}, running(7), running(200)} {
		for _, l := range [][]Block{nil, {}, row(5, 6)[:0]} {
			if s, came, failed := Chain(ledger, l); s != state.Genesis(ledger) || came != 0 || failed != api.OK {
				t.Errorf("%x: %v, %d, %d", ledger, s, came, failed)
			}
		}
	}
}

// P10.2: of one block: the first state's child.
func TestChainOfOne(t *testing.T) {
	for _, slot := range []uint32{1, 2, 3, 12, 23, 24, 1000, 1 << 31, greatest} {
		for _, ledger := range []api.Hash{{}, running(7)} {
			want, _ := told(t, state.Genesis(ledger), block(slot))
			if s, came, failed := Chain(ledger, []Block{block(slot)}); s != want || came != 1 || failed != api.OK {
				t.Errorf("slot %d: %v, %d, %d; want %v", slot, s, came, failed, want)
			}
		}
	}
}

// P10.2: of a block that has an error, first, in the middle or last: the state ahead of
// it, how many came ahead, and that error; whatever comes behind it.
func TestChainErrors(t *testing.T) {
	for _, c := range []struct {
		slots []uint32
		came  int
	}{
		{[]uint32{0}, 0}, // the first one
		{[]uint32{0, 1, 2}, 0},
		{[]uint32{0, 0, 0}, 0},
		{[]uint32{3, 3}, 1}, // the same slot again
		{[]uint32{3, 5, 5, 9}, 2},
		{[]uint32{1, 2, 3, 3, 4}, 3},
		{[]uint32{23, 24, 24, 25, 48}, 2},
		{[]uint32{3, 30, 29, 50, 60}, 2}, // one ahead
		{[]uint32{24, 23, 25}, 1},
		{[]uint32{3, 30, 50, 0}, 3}, // the last one
		{[]uint32{3, 30, 50, 49}, 3},
		{[]uint32{3, 30, 50, 50}, 3},
		{[]uint32{3, 30, 7, 50, 20}, 2}, // two of them
		{[]uint32{greatest, greatest}, 1},
		{[]uint32{5, greatest, 0}, 2},
		{[]uint32{5, greatest, greatest - 1, greatest}, 2},
	} {
		l := row(c.slots...)
		ahead, n, none := Chain(running(7), l[:c.came])
		if n != c.came || none != api.OK {
			t.Errorf("%d: ahead of it: %d, %d", c.slots, n, none)
		}
		_, wantFailed := told(t, ahead, l[c.came])
		s, came, failed := Chain(running(7), l)
		if s != ahead || came != c.came || failed != api.ErrSlot || failed != wantFailed {
			t.Errorf("%d: %v, %d, %d; want %v, %d, %d", c.slots, s, came, failed, ahead, c.came, wantFailed)
		}
	}
}

// P10.2: a fault at each place of a long chain.
func TestChainErrorsAnywhere(t *testing.T) {
	var slots []uint32
	for n := range uint32(60) {
		slots = append(slots, 1+n+n/7*5)
	}
	want := state.Genesis(running(7))
	for n := range slots {
		l := row(slots...)
		l[n].Slot = want.Slot // that of the state ahead of it
		if s, came, failed := Chain(running(7), l); s != want || came != n || failed != api.ErrSlot {
			t.Fatalf("block %d: %v, %d, %d; want %v", n, s, came, failed, want)
		}
		want, _ = told(t, want, row(slots...)[n])
	}
	if s, came, failed := Chain(running(7), row(slots...)); s != want || came != 60 || failed != api.OK {
		t.Errorf("%v, %d, %d; want %v", s, came, failed, want)
	}
}

// R3: the slice that came in stays as it was, also behind its end.
func TestBlocksThatCameInStay(t *testing.T) {
	for _, l := range [][]Block{row(1, 2, 3, 40, 50), row(3, 5, 5, 9, 4), row(0, 0, 0, 0, 0)} {
		was := slices.Clone(l)
		for n := range len(l) + 1 {
			Chain(running(7), l[:n])
			if !slices.Equal(l, was) {
				t.Errorf("%v became %v", was, l)
			}
		}
	}
}

// R4, R5: the same calls answer the same, whatever was asked in between.
func TestTheSameAgain(t *testing.T) {
	type question struct {
		s state.State
		b Block
	}
	type answers struct {
		child, chained  state.State
		came            int
		failed, stopped api.Errno
	}
	ask := func(q question) (out answers) {
		out.child, out.failed = Child(q.s, q.b)
		out.chained, out.came, out.stopped = Chain(q.s.Ledger, []Block{{Slot: 2}, q.b, {Slot: 1000}})
		return out
	}
	var all []question
	for _, s := range append(rights(rand.New(rand.NewSource(4)), 30), later(), state.Genesis(running(7)), state.State{}) {
		for _, by := range []uint32{0, greatest, 1, 3, 12, 24, 1000, 1 << 31} {
			all = append(all, question{s, block(s.Slot + by)})
		}
	}
	was := map[question]answers{}
	for _, q := range all {
		was[q] = ask(q)
	}
	for i := range all {
		q := all[len(all)-1-i]
		if got := ask(q); got != was[q] {
			t.Errorf("%v: %v; was %v", q, got, was[q])
		}
	}
}
