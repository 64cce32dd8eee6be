package grow

import (
	"crypto/sha256"
	"fmt"
	"math/rand"
	"slices"
	"testing"

	"almagest/api"
	"almagest/epoch"
	"almagest/ring"
	"almagest/state"
	"almagest/window"
)

// history is a whole chain: its blocks, ahead of them that of slot 0, which has the first
// ledger and no draw, and the digest of the state behind each block but the last one.
type history struct {
	blocks  []Block
	digests []api.Hash
}

// last is the last block's number.
func (h history) last() int { return len(h.blocks) - 1 }

// between is how many blocks there are from one slot on and ahead of another one.
func (h history) between(from, to int64) uint32 {
	count := uint32(0)
	for _, b := range h.blocks {
		if s := int64(b.Slot); from <= s && s < to {
			count++
		}
	}
	return count
}

// least is the least of Window and all that the windows have that are looked at.
func (h history) least() uint32 {
	least := uint32(12)
	for n, b := range h.blocks {
		if b.Slot >= 12 && b.Slot/3 != h.blocks[n-1].Slot/3 {
			start := int64(b.Slot) / 3 * 3
			least = min(least, h.between(start-12, start))
		}
	}
	return least
}

// ring is how many blocks the last sub-windows have; ones ahead of 0 pass for full ones.
func (h history) ring() ring.Ring {
	last := int64(h.blocks[h.last()].Slot) / 3
	out := ring.Ring{Last: uint32(last)}
	for sub := last - 3; sub <= last; sub++ {
		has := uint32(3)
		if sub >= 0 {
			has = h.between(3*sub, 3*sub+3)
		}
		out.Counts[(sub+4)%4] = has
	}
	return out
}

// entered is how many later epochs came into it.
func (h history) entered() uint32 {
	epochs := map[uint32]int{}
	for _, b := range h.blocks {
		epochs[b.Slot/24]++
	}
	return uint32(len(epochs)) - 1
}

// made is the data that are made in the last block's epoch, seeds from the first one on.
func (h history) made() epoch.Data {
	last := h.blocks[h.last()].Slot / 24
	out := epoch.Data{Ledger: h.blocks[0].Ledger}
	for n, b := range h.blocks {
		locks := n > 0 && b.Slot%24 < 16
		if locks {
			out.Seed = seeded(out.Seed, b.Draw)
		}
		if b.Slot/24 != last {
			continue
		}
		out.Length++
		if out.Length == 1 && n > 0 {
			out.Ledger, out.Start = h.blocks[n-1].Ledger, h.digests[n-1]
		}
		if locks {
			out.Lock = h.digests[n-1]
		}
	}
	return out
}

// ahead is the history up to the last block of an epoch that is ahead of the last one.
func (h history) ahead() history {
	last := h.blocks[h.last()].Slot / 24
	many := 0
	for _, b := range h.blocks {
		if b.Slot/24 < last {
			many++
		}
	}
	return history{h.blocks[:many], h.digests}
}

// pair is what a whole history makes of the first pair.
func (h history) pair() epoch.Pair {
	now := epoch.Data{Ledger: h.blocks[0].Ledger, Length: 1} // as long as there is no epoch ahead
	if ahead := h.ahead(); len(ahead.blocks) > 0 {
		now = ahead.made()
	}
	return epoch.Pair{Now: now, Next: h.made()}
}

// state is all that is told of a whole history.
func (h history) state() state.State {
	b := h.blocks[h.last()]
	out := state.State{
		Ledger: b.Ledger, Draw: b.Draw,
		Slot: b.Slot, Length: uint32(len(h.blocks)), Count: h.entered(),
		Win:    window.Win{Min: h.least(), Ring: h.ring()},
		Epochs: h.pair(),
	}
	if h.last() > 0 {
		out.Prev = h.digests[h.last()-1]
	}
	return out
}

// chained tells blocks of slots, with ledgers and draws of their own.
func chained(slots []uint32) []Block {
	var l []Block
	for n, s := range slots {
		l = append(l, Block{s, sha256.Sum256(fmt.Append(nil, "ledger ", n)), sha256.Sum256(fmt.Append(nil, "draw ", n))})
	}
	return l
}

// holdHistory holds the state behind each block, by Child, against what is counted of the
// whole history; now and then, and at last, by Chain, too. It tells the last one.
func holdHistory(t *testing.T, slots []uint32) state.State {
	t.Helper()
	first := running(7)
	l := chained(slots)
	h := history{blocks: []Block{{Ledger: first}}}
	s := state.Genesis(first)
	if s != h.state() {
		t.Fatalf("the first state: %v; want %v", s, h.state())
	}
	for n, b := range l {
		h.digests = append(h.digests, digest(t, h.state()))
		h.blocks = append(h.blocks, b)
		child, failed := Child(s, b)
		if want := h.state(); child != want || failed != api.OK {
			same(t, child, want)
			t.Fatalf("%d: block %d: %d", slots, n, failed)
		}
		if child.Win.Min > s.Win.Min {
			t.Fatalf("%d: block %d: Min %d; was %d", slots, n, child.Win.Min, s.Win.Min)
		}
		holdRight(t, child)
		s = child
		if n%40 != 0 && n < len(l)-1 {
			continue
		}
		if all, came, failed := Chain(first, l[:n+1]); all != s || came != n+1 || failed != api.OK {
			t.Fatalf("%d: by Chain %v, %d, %d; by Child %v", slots[:n+1], all, came, failed, s)
		}
	}
	return s
}

// steps tells slots that are so many off each other, the gaps coming again and again.
func steps(many int, gaps ...uint32) []uint32 {
	var slots []uint32
	s := uint32(0)
	for n := range many {
		s += gaps[n%len(gaps)]
		slots = append(slots, s)
	}
	return slots
}

// P10.3: of some slots about the bounds of epochs and windows, all histories.
func TestHistoriesOfFew(t *testing.T) {
	few := []uint32{1, 2, 3, 11, 12, 15, 16, 23, 24, 40, 48}
	for n := range 1 << len(few) {
		var slots []uint32
		for i, s := range few {
			if n>>i&1 == 1 {
				slots = append(slots, s)
			}
		}
		holdHistory(t, slots)
	}
}

// P10.3: all short histories of gaps of less than a sub-window, a window and an epoch, of
// one, and of more.
func TestHistoriesOfGaps(t *testing.T) {
	sizes := []uint32{1, 2, 3, 7, 11, 12, 13, 23, 24, 25, 48, 1 << 20}
	many := len(sizes)
	for n := range many * many * many {
		holdHistory(t, steps(3, sizes[n%many], sizes[n/many%many], sizes[n/many/many]))
	}
}

// P10.3: histories of many blocks, dense and thin ones.
func TestHistoriesLong(t *testing.T) {
	for _, c := range []struct {
		gaps       []uint32
		min, count uint32
	}{
		{[]uint32{1}, 12, 8}, // every slot has a block
		{[]uint32{1, 1, 1, 1, 1, 1, 1, 1, 2}, 10, 9},
		{[]uint32{1, 2}, 8, 12},
		{[]uint32{2}, 6, 16},
		{[]uint32{3}, 4, 25},
		{[]uint32{4}, 3, 33},
		{[]uint32{7}, 1, 58},
		{[]uint32{23}, 0, 191},
		{[]uint32{24}, 0, 200}, // one block an epoch
		{[]uint32{25}, 0, 200},
		{[]uint32{100, 3}, 0, 112},
		{[]uint32{16, 8}, 0, 100}, // places 16 and 0
		{[]uint32{15, 9}, 0, 100}, // places 15 and 0
		{[]uint32{1, 1, 1, 40}, 0, 56},
		{[]uint32{1 << 24}, 0, 200},
	} {
		s := holdHistory(t, steps(200, c.gaps...))
		if s.Length != 201 || s.Win.Min != c.min || s.Count != c.count {
			t.Errorf("gaps %d: Length %d, Min %d, Count %d; want 201, %d, %d", c.gaps, s.Length, s.Win.Min, s.Count, c.min, c.count)
		}
	}
}

// P10.3: histories of chance, ever thinner; and ones that are dense, then thin, then dense.
func TestHistoriesOfChance(t *testing.T) {
	chance := rand.New(rand.NewSource(17))
	for _, most := range []int{2, 3, 5, 9, 15, 30, 60, 200, 1 << 24} {
		for range 4 {
			var gaps []uint32
			for range 120 {
				gaps = append(gaps, 1+uint32(chance.Intn(most)))
			}
			holdHistory(t, steps(120, gaps...))
			for n := range gaps {
				if n < 40 || n >= 80 {
					gaps[n] = 1 + gaps[n]%2
				}
			}
			holdHistory(t, steps(120, gaps...))
		}
	}
}

// P10.3: a whole epoch, all of whose slots have a block, and the next one's first block.
func TestHistoryOfAWholeEpoch(t *testing.T) {
	slots := steps(48, 1)
	l := chained(slots)
	s := holdHistory(t, slots)
	behind := func(n int) api.Hash { // the digest of the state in slot n
		all, _, _ := Chain(running(7), l[:n])
		return digest(t, all)
	}
	now, next := s.Epochs.Now, s.Epochs.Next
	if now.Length != 24 || now.Ledger != l[22].Ledger || now.Start != behind(23) || now.Lock != behind(38) {
		t.Errorf("%v", now)
	}
	if next.Length != 1 || next.Ledger != l[46].Ledger || next.Start != behind(47) || next.Lock != behind(47) {
		t.Errorf("%v", next)
	}
	if s.Win != of(12, 16, 1, 3, 3, 3) || s.Count != 2 {
		t.Errorf("%v", s)
	}
}

// P10.3: the last slots of all, in a history from slot 0 on.
func TestHistoryUpToTheGreatest(t *testing.T) {
	slots := []uint32{1, 2, 30, greatest - 49, greatest - 30}
	for left := uint32(21); left > 0; left-- {
		slots = append(slots, greatest-left+1)
	}
	s := holdHistory(t, slots)
	if s.Slot != greatest || s.Length != 27 || s.Count != 4 || s.Epochs.Next.Length != 16 || s.Win != of(0, lastSub, 3, 1, 3, 3) {
		t.Errorf("%v", s)
	}
}

// W3: states of unlike histories are unlike, and so are their digests, though slots, draws
// and ledgers of their last blocks are alike.
func TestUnlikeHistories(t *testing.T) {
	digests := map[api.Hash][]uint32{}
	for n := range 1 << 9 {
		var slots []uint32
		for i := range uint32(9) {
			if n>>i&1 == 1 {
				slots = append(slots, 5*i+1)
			}
		}
		s, _, _ := Chain(running(7), append(chained(slots), block(60)))
		h := digest(t, s)
		if twin, known := digests[h]; known || s.Slot != 60 || s.Draw != running(102) {
			t.Errorf("%d and %d: %v", slots, twin, s)
		}
		digests[h] = slices.Clone(slots)
	}
}
