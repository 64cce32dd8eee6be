package slot

import (
	"math"
	"testing"

	"almagest/api"
)

const (
	greatest  = math.MaxUint32
	lastEpoch = 178956970  // the last one whose first slot is one of 32 bits
	lastFirst = 4294967280 // that slot
)

// told is all that is told of a slot.
type told struct {
	s, epoch, place, sub uint32
	ring                 int
	locking              bool
}

func hold(t *testing.T, c told) {
	t.Helper()
	got := told{c.s, Epoch(c.s), Place(c.s), Sub(c.s), Ring(Sub(c.s)), Locking(c.s)}
	if got != c {
		t.Errorf("slot %d: %+v; want %+v", c.s, got, c)
	}
}

// walk tells of the slots from one on, by counting alone, so that what is told
// doesn't hang on quotients and remainders.
func walk(from told, steps int, each func(told)) {
	threes := from.s - 3*from.sub // how far the slot is in its sub-window
	for at := from; ; steps-- {
		each(at)
		if steps == 0 {
			return
		}
		at.s++
		if at.place++; at.place == 24 {
			at.place, at.epoch = 0, at.epoch+1
		}
		at.locking = at.place < 16
		if threes++; threes == 3 {
			threes, at.sub = 0, at.sub+1
			if at.ring++; at.ring == 4 {
				at.ring = 0
			}
		}
	}
}

// starts tells slots to walk from, written out by hand: at 0, ahead of 2^16 and
// of 2^31, and so far ahead of the greatest one that as many steps end at it.
func starts() map[told]int {
	return map[told]int{
		{0, 0, 0, 0, 0, true}:                            100000,
		{65520, 2730, 0, 21840, 0, true}:                 5000,
		{2147483640, 89478485, 0, 715827880, 0, true}:    5000,
		{4294965600, 178956900, 0, 1431655200, 0, true}:  1695,
		{4294967280, 178956970, 0, 1431655760, 0, true}:  15,
		{4294967295, 178956970, 15, 1431655765, 1, true}: 0,
	}
}

// P5.1: the chapter's example.
func TestExample(t *testing.T) {
	hold(t, told{40, 1, 16, 13, 1, false})
}

// P5.1: what is told of slots at all edges, written out by hand.
func TestSlotsWrittenOut(t *testing.T) {
	for _, c := range []told{
		{0, 0, 0, 0, 0, true}, // the first one of all
		{1, 0, 1, 0, 0, true},
		{2, 0, 2, 0, 0, true}, // the last of a sub-window, and the first of the next
		{3, 0, 3, 1, 1, true},
		{5, 0, 5, 1, 1, true},
		{6, 0, 6, 2, 2, true},
		{8, 0, 8, 2, 2, true},
		{9, 0, 9, 3, 3, true},
		{11, 0, 11, 3, 3, true}, // the last of a ring, and the first of the next
		{12, 0, 12, 4, 0, true},
		{15, 0, 15, 5, 1, true}, // the last of a locking part, and the first behind it
		{16, 0, 16, 5, 1, false},
		{23, 0, 23, 7, 3, false}, // the last of an epoch, and the first of the next
		{24, 1, 0, 8, 0, true},
		{35, 1, 11, 11, 3, true}, // likewise, further on
		{36, 1, 12, 12, 0, true},
		{39, 1, 15, 13, 1, true},
		{40, 1, 16, 13, 1, false},
		{47, 1, 23, 15, 3, false},
		{48, 2, 0, 16, 0, true},
		{1000, 41, 16, 333, 1, false},
		{1<<31 - 1, 89478485, 7, 715827882, 2, true},
		{1 << 31, 89478485, 8, 715827882, 2, true},
		{4294967255, 178956968, 23, 1431655751, 3, false}, // about the last whole epoch
		{4294967256, 178956969, 0, 1431655752, 0, true},
		{4294967271, 178956969, 15, 1431655757, 1, true},
		{4294967272, 178956969, 16, 1431655757, 1, false},
		{4294967279, 178956969, 23, 1431655759, 3, false},
		{4294967280, 178956970, 0, 1431655760, 0, true},
		{4294967291, 178956970, 11, 1431655763, 3, true},
		{4294967292, 178956970, 12, 1431655764, 0, true},
		{4294967294, 178956970, 14, 1431655764, 0, true},
		{greatest, 178956970, 15, 1431655765, 1, true}, // the greatest of all
	} {
		hold(t, c)
	}
}

// P5.1: what is told of each slot of long rows, against counting.
func TestSlotsCounted(t *testing.T) {
	for from, steps := range starts() {
		walk(from, steps, func(c told) { hold(t, c) })
	}
}

// P5.1: ring places of sub-windows, whether slots have them or not.
func TestRing(t *testing.T) {
	for _, c := range []struct {
		sub  uint32
		want int
	}{
		{0, 0},
		{1, 1},
		{2, 2},
		{3, 3},
		{4, 0},
		{5, 1},
		{7, 3},
		{8, 0},
		{1000001, 1},
		{1431655765, 1}, // the sub-window of the greatest slot
		{1431655766, 2}, // and what no slot has
		{1<<31 - 1, 3},
		{1 << 31, 0},
		{1<<31 + 1, 1},
		{greatest - 3, 0},
		{greatest - 1, 2},
		{greatest, 3},
	} {
		if got := Ring(c.sub); got != c.want {
			t.Errorf("Ring(%d): %d; want %d", c.sub, got, c.want)
		}
	}
}

// P5.1: an epoch's first slot, up to the last one that is one of 32 bits; beside
// ErrOver it is 0.
func TestFirst(t *testing.T) {
	for _, c := range []struct {
		epoch, want uint32
		failed      api.Errno
	}{
		{0, 0, api.OK},
		{1, 24, api.OK},
		{2, 48, api.OK},
		{3, 72, api.OK},
		{1000, 24000, api.OK},
		{89478485, 2147483640, api.OK},
		{89478486, 2147483664, api.OK},
		{lastEpoch - 1, lastFirst - 24, api.OK},
		{lastEpoch, lastFirst, api.OK},
		{lastEpoch + 1, 0, api.ErrOver},
		{lastEpoch + 2, 0, api.ErrOver},
		{1 << 28, 0, api.ErrOver}, // what goes round to slots that look right
		{1 << 29, 0, api.ErrOver},
		{2 * lastEpoch, 0, api.ErrOver},
		{1 << 31, 0, api.ErrOver},
		{greatest - 1, 0, api.ErrOver},
		{greatest, 0, api.ErrOver},
	} {
		if got, failed := First(c.epoch); got != c.want || failed != c.failed {
			t.Errorf("First(%d): %d, %d; want %d, %d", c.epoch, got, failed, c.want, c.failed)
		}
	}
}

// P5.1: the slot so many later, up to the greatest one; beside ErrOver it is 0.
func TestLater(t *testing.T) {
	for _, c := range []struct {
		s, by, want uint32
		failed      api.Errno
	}{
		{0, 0, 0, api.OK},
		{5, 0, 5, api.OK},
		{greatest, 0, greatest, api.OK},
		{0, 1, 1, api.OK},
		{5, 1, 6, api.OK},
		{5, 7, 12, api.OK},
		{1<<31 - 1, 1, 1 << 31, api.OK},
		{1 << 31, 1<<31 - 1, greatest, api.OK}, // up to just the greatest
		{100, greatest - 100, greatest, api.OK},
		{greatest - 1, 1, greatest, api.OK},
		{0, greatest, greatest, api.OK},
		{1 << 31, 1 << 31, 0, api.ErrOver}, // one beyond it
		{100, greatest - 99, 0, api.ErrOver},
		{greatest, 1, 0, api.ErrOver},
		{1, greatest, 0, api.ErrOver},
		{5, greatest, 0, api.ErrOver},
		{greatest - 1, greatest, 0, api.ErrOver},
		{greatest, greatest, 0, api.ErrOver},
	} {
		if got, failed := Later(c.s, c.by); got != c.want || failed != c.failed {
			t.Errorf("Later(%d, %d): %d, %d; want %d, %d", c.s, c.by, got, failed, c.want, c.failed)
		}
	}
}

// P5.1: turns, written out by hand.
func TestTurns(t *testing.T) {
	for _, c := range []struct {
		a, b uint32
		want bool
	}{
		{0, 0, false}, // within an epoch
		{0, 23, false},
		{23, 0, false},
		{5, 6, false},
		{24, 47, false},
		{47, 24, false},
		{lastFirst, greatest, false},
		{greatest, greatest, false},
		{0, 24, true}, // from one to a later one
		{23, 24, true},
		{23, 47, true},
		{47, 48, true},
		{0, 48, true},
		{lastFirst - 1, lastFirst, true},
		{0, greatest, true},
		{1 << 30, 3 << 30, true},
		{24, 23, false}, // and back
		{24, 0, false},
		{48, 47, false},
		{48, 0, false},
		{lastFirst, lastFirst - 1, false},
		{greatest, 0, false},
		{3 << 30, 1 << 30, false},
	} {
		if got := Turns(c.a, c.b); got != c.want {
			t.Errorf("Turns(%d, %d): %t; want %t", c.a, c.b, got, c.want)
		}
	}
}

// P5.1: turns of all slots of some epochs with one another, whose epochs are counted.
func TestTurnsCounted(t *testing.T) {
	var all []told
	keep := func(c told) { all = append(all, c) }
	walk(told{0, 0, 0, 0, 0, true}, 99, keep)
	walk(told{4294967208, 178956967, 0, 1431655736, 0, true}, 87, keep)
	for _, a := range all {
		for _, b := range all {
			if got := Turns(a.s, b.s); got != (b.epoch > a.epoch) {
				t.Errorf("Turns(%d, %d): %t", a.s, b.s, got)
			}
		}
	}
}

// P5.2: a slot is its epoch's first one, and its place.
func TestFirstAndPlace(t *testing.T) {
	for from, steps := range starts() {
		walk(from, steps, func(c told) {
			first, failed := First(Epoch(c.s))
			if failed != api.OK || Place(first) != 0 || Epoch(first) != Epoch(c.s) {
				t.Errorf("slot %d: its epoch begins at %d, %d", c.s, first, failed)
			}
			if back, failed := Later(first, Place(c.s)); back != c.s || failed != api.OK {
				t.Errorf("slot %d: the first one and the place are %d, %d", c.s, back, failed)
			}
		})
	}
}

// P5.2: neighbours have one epoch, or one that is 1 more; so it is of sub-windows,
// and Turns tells which.
func TestNeighbours(t *testing.T) {
	for from, steps := range starts() {
		walk(from, steps, func(c told) {
			next, failed := Later(c.s, 1)
			if c.s == greatest {
				if next != 0 || failed != api.ErrOver {
					t.Errorf("behind the greatest slot: %d, %d", next, failed)
				}
				return
			}
			more := Epoch(next) - Epoch(c.s)
			if failed != api.OK || more > 1 || Turns(c.s, next) != (more == 1) || Turns(next, c.s) {
				t.Errorf("slots %d and %d: the epoch is %d more", c.s, next, more)
			}
			if more == 1 && (Place(c.s) != 23 || Place(next) != 0) {
				t.Errorf("slots %d and %d: places %d and %d", c.s, next, Place(c.s), Place(next))
			}
			if more := Sub(next) - Sub(c.s); more > 1 {
				t.Errorf("slots %d and %d: the sub-window is %d more", c.s, next, more)
			}
		})
	}
}

// P5.2: there are as many locking slots in each epoch as LockSlots, all of them
// ahead of the others. The last epoch ends early, just behind them.
func TestLockingOfEpochs(t *testing.T) {
	epochs := []uint32{89478484, 89478485, 89478486, lastEpoch - 2, lastEpoch - 1, lastEpoch}
	for epoch := range uint32(2000) {
		epochs = append(epochs, epoch)
	}
	for _, epoch := range epochs {
		size := uint32(api.EpochSlots)
		if epoch == lastEpoch {
			size = 16
		}
		locking, ahead := 0, true
		for place := range size {
			s := epoch*24 + place
			if Epoch(s) != epoch {
				t.Errorf("slot %d is of epoch %d; want %d", s, Epoch(s), epoch)
			}
			if Locking(s) {
				locking++
			}
			if Locking(s) && !ahead {
				t.Errorf("slot %d is locking, behind one that isn't", s)
			}
			ahead = Locking(s)
		}
		if locking != api.LockSlots {
			t.Errorf("epoch %d: %d slots are locking; want %d", epoch, locking, api.LockSlots)
		}
	}
}

func holdParted[N whole](t *testing.T, n, size, times, left N) {
	t.Helper()
	if gotTimes, gotLeft := parted(n, size); gotTimes != times || gotLeft != left {
		t.Errorf("%d by %d (%T): %d, %d; want %d, %d", n, size, n, gotTimes, gotLeft, times, left)
	}
}

// Ways, 5: quotients and remainders are those of numbers of any type.
func TestPartedOfAnyType(t *testing.T) {
	type own uint16
	holdParted[uint8](t, 255, 24, 10, 15)
	holdParted[int8](t, 127, 24, 5, 7)
	holdParted[uint16](t, 65535, 24, 2730, 15)
	holdParted[int16](t, 32767, 24, 1365, 7)
	holdParted[uint32](t, greatest, 24, lastEpoch, 15)
	holdParted[int32](t, math.MaxInt32, 24, 89478485, 7)
	holdParted[uint64](t, math.MaxUint64, 24, 768614336404564650, 15)
	holdParted[int64](t, math.MaxInt64, 24, 384307168202282325, 7)
	holdParted[uint](t, 40, 24, 1, 16)
	holdParted[int](t, 40, 3, 13, 1)
	holdParted[uintptr](t, 13, 4, 3, 1)
	holdParted[own](t, 23, 24, 0, 23)
}

// R4, R5: the same calls answer the same, whatever was asked in between.
func TestTheSameAgain(t *testing.T) {
	all := []uint32{0, 15, 16, 23, 24, 40, lastEpoch, lastEpoch + 1, lastFirst, greatest}
	type answers struct {
		told
		first, later             uint32
		firstFailed, laterFailed api.Errno
		turns                    bool
	}
	ask := func(s uint32) answers {
		out := answers{told: told{s, Epoch(s), Place(s), Sub(s), Ring(s), Locking(s)}}
		out.first, out.firstFailed = First(s)
		out.later, out.laterFailed = Later(s, s)
		out.turns = Turns(s, 24)
		return out
	}
	was := map[uint32]answers{}
	for _, s := range all {
		was[s] = ask(s)
	}
	for i := range all {
		s := all[len(all)-1-i]
		if got := ask(s); got != was[s] {
			t.Errorf("slot %d: %+v; was %+v", s, got, was[s])
		}
	}
}
