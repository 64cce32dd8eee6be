package choose

import (
	"bytes"
	"crypto/sha256"
	"encoding/binary"
	"fmt"
	"math"
	"math/rand"
	"testing"

	"almagest/api"
	"almagest/epoch"
	"almagest/grow"
	"almagest/ring"
	"almagest/state"
	"almagest/window"
)

const greatest = math.MaxUint32

// lastEpoch is the first slot of the last epoch, which has 16 slots.
const lastEpoch = greatest - greatest%24

// change is what a test changes of a state.
type change func(*state.State)

// at tells a state of a slot, changed so. It must be right.
func at(slot uint32, changes ...change) state.State {
	s := state.State{
		Slot: slot, Length: 1,
		Win:    window.Win{Min: 6, Ring: ring.Ring{Last: slot / 3}},
		Epochs: epoch.Pair{Next: epoch.Data{Length: 1}},
	}
	s.Win.Ring.Counts[slot/3%4] = 1
	return changed(s, changes...)
}

// changed tells a state with changes, which must be right.
func changed(s state.State, changes ...change) state.State {
	for _, c := range changes {
		c(&s)
	}
	if !state.Right(s) {
		panic(fmt.Sprint("not right: ", s))
	}
	return s
}

// The changes.

// locks sets the Locks of Now and Next.
func locks(now, next byte) change {
	return func(s *state.State) {
		s.Epochs.Now.Lock, s.Epochs.Next.Lock = api.Hash{5: now}, api.Hash{5: next}
	}
}

// long sets the Length.
func long(length uint32) change { return func(s *state.State) { s.Length = length } }

// drawn sets the Draw.
func drawn(draw api.Hash) change { return func(s *state.State) { s.Draw = draw } }

// dense sets the least density.
func dense(least uint32) change { return func(s *state.State) { s.Win.Min = least } }

// ledger sets the Ledger, which moves nothing but the digest.
func ledger(n byte) change { return func(s *state.State) { s.Ledger[9] = n } }

// full makes the sub-windows up to the slot's full ones.
func full(s *state.State) { s.Win.Ring.Counts = [4]uint32{3, 3, 3, 3} }

// digest tells a state's digest by crypto/sha256.
func digest(s state.State) api.Hash {
	image := bytes.NewBufferString("\x05state\x01\x00\x00\x01\x8c")
	if err := binary.Write(image, binary.BigEndian, s); err != nil {
		panic(err)
	}
	return sha256.Sum256(image.Bytes())
}

// key tells what is less just if the state's key is: a row of bytes.
func key(s state.State) []byte {
	hash := digest(s)
	return bytes.Join([][]byte{binary.BigEndian.AppendUint32(nil, s.Length), s.Draw[:], hash[:]}, nil)
}

// forked tells whether two states are near one another, by the chapter's words.
func forked(a, b state.State) bool {
	gap := int64(a.Slot/24) - int64(b.Slot/24)
	if gap < 0 {
		return forked(b, a)
	}
	return gap == 0 && a.Epochs.Now.Lock == b.Epochs.Now.Lock ||
		gap == 1 && b.Slot%24 >= 16 && a.Epochs.Now.Lock == b.Epochs.Next.Lock
}

// counted tells the least density as of a slot that isn't ahead of the window state's own.
func counted(w window.Win, as uint32) uint32 {
	sub, last := int64(as/3), int64(w.Ring.Last)
	if as < 12 || sub <= last {
		return w.Min
	}
	had := uint32(0)
	for ahead := sub - 4; ahead < sub; ahead++ {
		if ahead <= last {
			had += w.Ring.Counts[ahead%4]
		}
	}
	return min(w.Min, had)
}

// beats tells whether a candidate wins, by the chapter's words.
func beats(tip, candidate state.State) bool {
	as := max(tip.Slot, candidate.Slot)
	kept, offered := counted(tip.Win, as), counted(candidate.Win, as)
	if forked(tip, candidate) || kept == offered {
		return bytes.Compare(key(candidate), key(tip)) > 0
	}
	return offered > kept
}

// holdNear holds whether two states are near, both ways round.
func holdNear(t *testing.T, a, b state.State, want bool) {
	t.Helper()
	if Near(a, b) != want || Near(b, a) != want {
		t.Errorf("slots %d, %d: %v, turned %v; want %v", a.Slot, b.Slot, Near(a, b), Near(b, a), want)
	}
}

// holdDensities holds two states' densities, both ways round.
func holdDensities(t *testing.T, a, b state.State, wantA, wantB uint32) {
	t.Helper()
	if one, other := Densities(a, b); one != wantA || other != wantB {
		t.Errorf("slots %d, %d: %d, %d; want %d, %d", a.Slot, b.Slot, one, other, wantA, wantB)
	}
	if other, one := Densities(b, a); one != wantA || other != wantB {
		t.Errorf("slots %d, %d, turned: %d, %d; want %d, %d", b.Slot, a.Slot, other, one, wantB, wantA)
	}
}

// holdWins holds that a state wins against another one, which doesn't against it, and that
// neither does against itself.
func holdWins(t *testing.T, winner, loser state.State) {
	t.Helper()
	if !Wins(loser, winner) {
		t.Errorf("slot %d, length %d: doesn't win against slot %d, length %d", winner.Slot, winner.Length, loser.Slot, loser.Length)
	}
	if Wins(winner, loser) {
		t.Errorf("slot %d, length %d: wins against slot %d, length %d", loser.Slot, loser.Length, winner.Slot, winner.Length)
	}
	if Wins(winner, winner) || Wins(loser, loser) {
		t.Errorf("slot %d, or %d: wins against itself", winner.Slot, loser.Slot)
	}
}

// P13.1: the chapter's example, and it turned.
func TestExample(t *testing.T) {
	short, longer := at(30, locks(7, 1), long(5)), at(30, locks(7, 1), long(6))
	holdNear(t, short, longer, true)
	holdWins(t, longer, short)
}

// P13.1: states of one epoch: near just if they have one Lock in Now.
func TestNearInOneEpoch(t *testing.T) {
	for _, c := range [][2]uint32{
		{0, 0}, {0, 1}, {0, 23}, {15, 16}, {16, 16}, {16, 23}, {23, 23}, {24, 24}, {24, 47}, {39, 40}, {40, 47},
		{2400, 2423}, {1<<31 - 8, 1<<31 + 15}, {lastEpoch - 24, lastEpoch - 1}, {lastEpoch, greatest}, {greatest, greatest},
	} {
		holdNear(t, at(c[0], locks(7, 1)), at(c[1], locks(7, 2)), true)
		holdNear(t, at(c[0], locks(7, 1)), at(c[1], locks(7, 7)), true)
		holdNear(t, at(c[0], locks(0, 1)), at(c[1], locks(0, 2)), true)
		holdNear(t, at(c[0], locks(7, 1)), at(c[1], locks(8, 1)), false)
		holdNear(t, at(c[0], locks(7, 8)), at(c[1], locks(8, 7)), false)
		holdNear(t, at(c[0], locks(7, 8)), at(c[1], locks(8, 8)), false)
		holdNear(t, at(c[0], locks(7, 0)), at(c[1], locks(0, 0)), false)
	}
}

// P13.1: states whose epochs lie 1 apart, at all places: near just if the elder one's isn't
// locking, and its Next's Lock is the younger one's Now's.
func TestNearInTheNextEpoch(t *testing.T) {
	for _, start := range []uint32{0, 24, 240, 1<<31 - 8, lastEpoch - 24} {
		for elder := start; elder < start+24; elder++ {
			for younger := start + 24; younger < start+40; younger++ { // up to the greatest slot
				apart := elder-start >= 16
				holdNear(t, at(elder, locks(1, 5)), at(younger, locks(5, 2)), apart)
				holdNear(t, at(elder, locks(1, 5)), at(younger, locks(5, 5)), apart)
				holdNear(t, at(elder, locks(5, 5)), at(younger, locks(5, 2)), apart)
				holdNear(t, at(elder, locks(0, 0)), at(younger, locks(0, 0)), apart)
				holdNear(t, at(elder, locks(5, 6)), at(younger, locks(5, 2)), false) // the elder one's Now's
				holdNear(t, at(elder, locks(5, 6)), at(younger, locks(5, 5)), false)
				holdNear(t, at(elder, locks(5, 6)), at(younger, locks(7, 8)), false) // neither
				holdNear(t, at(elder, locks(1, 5)), at(younger, locks(2, 5)), false) // both ones' Next's
				holdNear(t, at(elder, locks(1, 5)), at(younger, locks(1, 5)), false) // both are, but not one the other
				holdNear(t, at(elder, locks(5, 1)), at(younger, locks(2, 5)), false) // the other way round
			}
		}
	}
}

// P13.1: just where the last locking slot ends: one slot alone.
func TestNearAtTheLastLockingSlot(t *testing.T) {
	for _, younger := range []uint32{48, 63, 64, 71} {
		holdNear(t, at(39, locks(1, 5)), at(younger, locks(5, 5)), false)
		holdNear(t, at(40, locks(1, 5)), at(younger, locks(5, 5)), true)
		holdNear(t, at(47, locks(1, 5)), at(younger, locks(5, 5)), true)
	}
	holdNear(t, at(47, locks(1, 5)), at(24, locks(1, 6)), true) // in one epoch no slot is asked
	holdNear(t, at(39, locks(1, 5)), at(24, locks(1, 6)), true)
}

// P13.1: states whose epochs lie 2 and more apart are never near, whatever their Locks are.
func TestNearInFarEpochs(t *testing.T) {
	slots := []uint32{0, 15, 16, 23, 24, 40, 47}
	for _, apart := range []uint32{2, 3, 4, 24, 255, 256, 257, 65535, 65536, 65537, 1 << 24, greatest/24 - 2} {
		for _, elder := range slots {
			for _, place := range []uint32{0, 7, 15} {
				younger := (elder/24+apart)*24 + place
				for _, one := range []change{locks(5, 5), locks(0, 0), locks(4, 5), locks(5, 4)} {
					holdNear(t, at(elder, one), at(younger, locks(5, 5)), false)
					holdNear(t, at(elder, one), at(younger, locks(0, 0)), false)
				}
			}
		}
	}
	for _, place := range slots[:4] {
		holdNear(t, at(place, locks(5, 5)), at(greatest, locks(5, 5)), false)
		holdNear(t, at(place, locks(5, 5)), at(lastEpoch, locks(5, 5)), false)
	}
}

// P13.1: a state is near itself, whatever its slot and Locks are.
func TestNearItself(t *testing.T) {
	for _, slot := range []uint32{0, 1, 15, 16, 23, 24, 40, 48, 1 << 31, lastEpoch - 1, lastEpoch, greatest} {
		for _, one := range []change{locks(5, 5), locks(5, 6), locks(0, 6), locks(5, 0), locks(0, 0)} {
			holdNear(t, at(slot, one), at(slot, one), true)
		}
	}
	holdNear(t, state.Genesis(api.Hash{1}), state.Genesis(api.Hash{1}), true)
	holdNear(t, state.Genesis(api.Hash{1}), state.Genesis(api.Hash{2}), true)
}

// P13.1: each bit of the Locks that are held against one another counts.
func TestNearByEachBit(t *testing.T) {
	one, same, later := at(40, locks(7, 5)), at(41, locks(7, 9)), at(48, locks(5, 9))
	holdNear(t, one, same, true)
	holdNear(t, one, later, true)
	for place := range 32 {
		for bit := range 8 {
			by := byte(1) << bit
			holdNear(t, changed(one, func(s *state.State) { s.Epochs.Now.Lock[place] ^= by }), same, false)
			holdNear(t, one, changed(same, func(s *state.State) { s.Epochs.Now.Lock[place] ^= by }), false)
			holdNear(t, changed(one, func(s *state.State) { s.Epochs.Next.Lock[place] ^= by }), later, false)
			holdNear(t, one, changed(later, func(s *state.State) { s.Epochs.Now.Lock[place] ^= by }), false)
		}
	}
}

// P13.1: nothing else of a state counts.
func TestNearByNothingElse(t *testing.T) {
	for name, other := range map[string]change{
		"Prev":          func(s *state.State) { s.Prev[1]++ },
		"Ledger":        func(s *state.State) { s.Ledger[1]++ },
		"Draw":          func(s *state.State) { s.Draw[1]++ },
		"Length":        long(7),
		"Count":         func(s *state.State) { s.Length, s.Count = 9, 1 },
		"Min":           dense(0),
		"counts":        full,
		"Now's Ledger":  func(s *state.State) { s.Epochs.Now.Ledger[1]++ },
		"Now's Seed":    func(s *state.State) { s.Epochs.Now.Seed[1]++ },
		"Now's Start":   func(s *state.State) { s.Epochs.Now.Start[1]++ },
		"Now's Length":  func(s *state.State) { s.Epochs.Now.Length = greatest },
		"Next's Ledger": func(s *state.State) { s.Epochs.Next.Ledger[1]++ },
		"Next's Seed":   func(s *state.State) { s.Epochs.Next.Seed[1]++ },
		"Next's Start":  func(s *state.State) { s.Epochs.Next.Start[1]++ },
		"Next's Length": func(s *state.State) { s.Length, s.Epochs.Next.Length = 9, min(2, s.Slot%24+1) },
	} {
		for _, c := range []struct {
			a, b state.State
			want bool
		}{
			{at(40, locks(7, 5)), at(41, locks(7, 9)), true},
			{at(40, locks(7, 5)), at(41, locks(8, 5)), false},
			{at(40, locks(7, 5)), at(48, locks(5, 9)), true},
			{at(40, locks(7, 5)), at(48, locks(7, 5)), false},
			{at(39, locks(7, 5)), at(48, locks(5, 9)), false},
			{at(40, locks(5, 5)), at(72, locks(5, 5)), false},
		} {
			holdNear(t, changed(c.a, other), c.b, c.want)
			holdNear(t, c.a, changed(c.b, other), c.want)
			holdNear(t, changed(c.a, other), changed(c.b, other), c.want)
		}
		if t.Failed() {
			t.Fatal(name)
		}
	}
}

// P13.1: densities of states that are written out, counted by hand: as of the greater slot.
func TestDensitiesWrittenOut(t *testing.T) {
	first := state.Genesis(api.Hash{1})
	held := at(30, dense(12), func(s *state.State) { // sub-window 10; its ring place is 2
		s.Win.Ring.Counts = [4]uint32{2, 3, 1, 3} // of sub-windows 8, 9, 10, 7
	})
	for i, c := range []struct {
		a, b         state.State
		wantA, wantB uint32
	}{
		{first, first, 12, 12},
		{first, at(11), 12, 6}, // ahead of Grace no window counts
		{first, at(12), 1, 6},
		{first, at(14), 1, 6}, // sub-windows 0 to 3
		{first, at(15), 0, 6}, // sub-windows 1 to 4
		{held, at(30), 12, 6},
		{held, at(31, dense(11)), 12, 11},
		{held, at(32, dense(11)), 12, 11},
		{held, at(33, dense(11)), 9, 11}, // sub-windows 7 to 10
		{held, at(35, dense(11)), 9, 11},
		{held, at(36, dense(11)), 6, 11}, // 8 to 11
		{held, at(39, dense(11)), 4, 11},
		{held, at(42, dense(11)), 1, 11},
		{held, at(45, dense(11)), 0, 11},
		{held, at(greatest, dense(11)), 0, 11},
		{held, at(29, dense(11)), 12, 1}, // sub-window 9 alone has a block
		{held, at(21, dense(11)), 12, 1},
		{held, at(18, dense(11)), 12, 1}, // sub-window 6, ahead of 10
		{held, at(17, dense(11)), 12, 0},
		{held, at(0, dense(11)), 12, 0},
		{changed(held, dense(5)), at(33), 5, 6}, // Min, where it is the lesser one
		{changed(held, dense(9)), at(33), 9, 6},
		{changed(held, dense(10)), at(33), 9, 6},
		{changed(held, dense(0)), at(36), 0, 6},
		{at(30, dense(12), full), at(33), 12, 6},
		{at(30, dense(12), full), at(36), 9, 6},
	} {
		holdDensities(t, c.a, c.b, c.wantA, c.wantB)
		if t.Failed() {
			t.Fatal("case", i)
		}
	}
}

// rings tells window states of a slot, right ones, of all kinds.
func rings(slot uint32) []window.Win {
	last := slot / 3
	var all []window.Win
	for _, least := range []uint32{0, 1, 4, 7, 11, 12} {
		for _, counts := range [][4]uint32{{3, 3, 3, 3}, {1, 1, 1, 1}, {1, 2, 3, 1}, {3, 0, 0, 3}, {0, 0, 0, 0}, {0, 3, 2, 0}} {
			counts[last%4] = max(counts[last%4], 1)
			all = append(all, window.Win{Min: least, Ring: ring.Ring{Last: last, Counts: counts}})
		}
	}
	return all
}

// P13.1: densities of states whose slots are the same, in one sub-window, in neighbours,
// some apart, and far apart, held against window.Relative, and against what is counted.
func TestDensitiesOfAllGaps(t *testing.T) {
	starts := []uint32{0, 1, 2, 3, 8, 9, 10, 11, 12, 13, 14, 23, 24, 40, 41, 300, 1 << 31, greatest - 40, greatest - 1, greatest}
	for _, slot := range starts {
		for _, gap := range []uint32{0, 1, 2, 3, 4, 5, 6, 8, 9, 11, 12, 13, 15, 24, 25, 40, 1000, 1 << 30, greatest - slot} {
			if gap > greatest-slot {
				continue
			}
			as := slot + gap
			for _, one := range rings(slot) {
				for _, other := range rings(as) {
					a, b := at(slot), at(as)
					a.Win, b.Win = one, other
					holdDensities(t, a, b, counted(one, as), counted(other, as))
					holdDensities(t, a, b, window.Relative(one, as), window.Relative(other, as))
					if _, own := Densities(a, b); own != other.Min {
						t.Errorf("slot %d: %d as of its own slot; Min %d", as, own, other.Min)
					}
				}
			}
			if t.Failed() {
				return
			}
		}
	}
}

// P13.1: nothing of a state but its slot and window state tells its density, be it near or not.
func TestDensitiesByNothingElse(t *testing.T) {
	for _, other := range []change{
		func(*state.State) {}, locks(1, 2), locks(3, 3), long(9), drawn(api.Hash{9}), ledger(9),
		func(s *state.State) { s.Length, s.Count = 9, 1 },
		func(s *state.State) { s.Prev[1]++; s.Epochs.Now.Seed[1]++; s.Epochs.Next.Start[1]++ },
	} {
		a, b := at(40, dense(12), full), at(51, dense(9))
		holdDensities(t, changed(a, other), b, 3, 9) // of sub-windows 13 to 16 it has 13
		holdDensities(t, a, changed(b, other), 3, 9)
		holdDensities(t, changed(a, other), changed(b, other), 3, 9)
	}
}

// grown is a chain's state, and its history: the slots of its blocks and its states' digests,
// from the first one on.
type grown struct {
	s       state.State
	slots   []uint32
	digests []api.Hash
}

// begun tells a chain of the first state alone.
func begun() grown {
	s := state.Genesis(api.Hash{1})
	return grown{s, []uint32{0}, []api.Hash{digest(s)}}
}

// with tells the chain with one block more, or itself, if no block may be there.
func (g grown) with(slot uint32, draw byte) grown {
	c, failed := grow.Child(g.s, grow.Block{Slot: slot, Ledger: api.Hash{2}, Draw: api.Hash{draw}})
	if failed != api.OK {
		return g
	}
	out := grown{s: c}
	out.slots = append(append(out.slots, g.slots...), slot)
	out.digests = append(append(out.digests, g.digests...), digest(c))
	return out
}

// lock tells the parent of an epoch's last locking block, the first one excepted.
func (g grown) lock(of uint32) api.Hash {
	for n := len(g.slots) - 1; n > 0; n-- {
		if g.slots[n]/24 == of && g.slots[n]%24 < 16 {
			return g.digests[n-1]
		}
	}
	return api.Hash{}
}

// drawnBy tells the Lock by which the last block was drawn, from the whole history.
func (g grown) drawnBy() api.Hash {
	for n := len(g.slots) - 1; n >= 0; n-- {
		if e := g.slots[n] / 24; e < g.s.Slot/24 {
			return g.lock(e)
		}
	}
	return api.Hash{}
}

// fork tells whether two chains are a short-range fork, from their whole histories.
func (g grown) fork(other grown) bool {
	switch int64(g.s.Slot/24) - int64(other.s.Slot/24) {
	case 0:
		return g.drawnBy() == other.drawnBy()
	case 1:
		return other.s.Slot%24 >= 16 && g.drawnBy() == other.lock(other.s.Slot/24)
	case -1:
		return other.fork(g)
	}
	return false
}

// forest tells chains that grow from each other at chance.
func forest(chance *rand.Rand, many int) []grown {
	all := []grown{begun()}
	for len(all) < many {
		g := all[max(0, len(all)-1-chance.Intn(9))] // late ones, so that the chains are long
		all = append(all, g.with(g.s.Slot+1+uint32(chance.Intn(1+chance.Intn(20))), byte(chance.Intn(2))))
	}
	return all
}

// P13.1, W3: chains that fork here and there: whether they are near, how dense they are, and
// which one wins is told by their whole histories.
func TestForests(t *testing.T) {
	met := map[string]int{}
	for seed := range int64(4) {
		all := forest(rand.New(rand.NewSource(seed)), 110)
		for i, a := range all {
			for _, b := range all[:i+1] {
				near, gap := a.fork(b), max(a.s.Slot/24, b.s.Slot/24)-min(a.s.Slot/24, b.s.Slot/24)
				holdNear(t, a.s, b.s, near)
				as := max(a.s.Slot, b.s.Slot)
				holdDensities(t, a.s, b.s, counted(a.s.Win, as), counted(b.s.Win, as))
				met[fmt.Sprint(near, min(gap, 2))]++
				if a.s == b.s {
					continue
				}
				if beats(a.s, b.s) {
					holdWins(t, b.s, a.s)
				} else {
					holdWins(t, a.s, b.s)
				}
			}
			if t.Failed() {
				t.Fatal("seed", seed)
			}
		}
	}
	for _, kind := range []string{"true 0", "false 0", "true 1", "false 1", "false 2"} {
		if met[kind] < 100 {
			t.Error("too few are met", met)
		}
	}
	if met["true 2"] != 0 {
		t.Error(met)
	}
}
