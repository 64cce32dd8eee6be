package window

import (
	"math"
	"math/bits"
	"testing"

	"almagest/api"
	"almagest/ring"
)

const (
	greatest = math.MaxUint32
	lastSub  = 1431655765 // the sub-window of the greatest slot, and of that one alone
)

func of(least, last, a, b, c, d uint32) Win {
	return Win{least, ring.Ring{Last: last, Counts: [api.Subs]uint32{a, b, c, d}}}
}

// right tells whether a window state may be, count by count.
func right(w Win) bool {
	at := w.Ring.Last & 3 // the remainder by 4
	for place, count := range w.Ring.Counts {
		if count > 3 || count == 0 && place == int(at) {
			return false
		}
	}
	return w.Min < 13
}

// spread tells how many blocks each sub-window up to Last has of which a ring tells,
// by going back one by one. The numbers go below 0, for there are ones ahead of 0.
func spread(r ring.Ring) map[int64]uint32 {
	blocks := map[int64]uint32{}
	at := int(r.Last & 3)
	for back := range int64(4) {
		blocks[int64(r.Last)-back] = r.Counts[at]
		if at--; at < 0 {
			at = 3
		}
	}
	return blocks
}

// counted tells what a window state that is right becomes by one block more, by
// counting in the sub-windows of which its ring tells.
func counted(w Win, s uint32) (Win, api.Errno) {
	blocks, last, sub := spread(w.Ring), int64(w.Ring.Last), int64(s/3)
	if sub < last {
		return Win{}, api.ErrSlot
	}
	if sub == last && blocks[sub] == 3 {
		return Win{}, api.ErrFull
	}
	if sub > last && s >= 12 {
		w.Min = min(w.Min, blocks[sub-4]+blocks[sub-3]+blocks[sub-2]+blocks[sub-1])
	}
	blocks[sub]++
	w.Ring = ring.Ring{Last: uint32(sub)}
	for back := range int64(4) {
		w.Ring.Counts[(sub-back)&3] = blocks[sub-back]
	}
	return w, api.OK
}

// rights tells all window states that are right, of some Mins and one Last.
func rights(last uint32, mins ...uint32) []Win {
	var all []Win
	for n := range uint32(256) {
		for _, least := range mins {
			w := of(least, last, n&3, n>>2&3, n>>4&3, n>>6)
			if w.Ring.Counts[last&3] > 0 {
				all = append(all, w)
			}
		}
	}
	return all
}

// lasts tells sub-windows where rings may end: about Grace, far off, the last ones that
// slots have, and what no slot has.
func lasts() []uint32 {
	return []uint32{
		0, 1, 2, 3, 4, 5, 6, 7, 8, 9, 1000, 715827881, 715827882,
		lastSub - 5, lastSub - 4, lastSub - 3, lastSub - 2, lastSub - 1, lastSub,
		lastSub + 1, lastSub + 2, 1 << 31, greatest - 1, greatest,
	}
}

// slots tells slots to ask for, in order: the first ones, those near a sub-window, ones
// far off, and the greatest.
func slots(last uint32) []uint32 {
	var all []uint32
	add := func(from, to int64) {
		for s := from; s <= to; s++ {
			known := len(all) > 0 && s <= int64(all[len(all)-1])
			if s >= 0 && s <= greatest && !known {
				all = append(all, uint32(s))
			}
		}
	}
	first := int64(last) * 3
	add(0, 16)
	add(first-15, first+20)
	for _, far := range []int64{100, 1 << 16, 1<<31 - 1, 1 << 31, greatest - 100} {
		add(first+far, first+far)
	}
	add(greatest-6, greatest)
	return all
}

// P7.2: the chapter's example.
func TestExample(t *testing.T) {
	w, failed := Put(Genesis(), 12)
	if w.Min != 1 || failed != api.OK {
		t.Errorf("%v, %d", w, failed)
	}
}

// P7.1: the least density is a whole window, and the ring the first one.
func TestGenesis(t *testing.T) {
	w := Genesis()
	if w != of(12, 0, 1, 3, 3, 3) || w.Ring != ring.Genesis() || !Right(w) {
		t.Errorf("%v: %t", w, Right(w))
	}
}

// P7.1: window states that are right, and that aren't, written out by hand.
func TestRight(t *testing.T) {
	for _, c := range []struct {
		w    Win
		want bool
	}{
		{of(0, 0, 1, 0, 0, 0), true}, // Min from 0 to Window, whatever the ring has
		{of(0, 0, 3, 3, 3, 3), true},
		{of(1, 5, 0, 1, 0, 0), true},
		{of(7, 5, 1, 2, 3, 2), true},
		{of(11, 5, 1, 2, 3, 2), true},
		{of(12, 5, 1, 2, 3, 2), true},
		{of(12, greatest, 0, 0, 0, 1), true},
		{of(12, greatest, 3, 3, 3, 3), true},
		{of(13, 5, 1, 2, 3, 2), false}, // Min above Window
		{of(13, 0, 3, 3, 3, 3), false},
		{of(14, 5, 1, 2, 3, 2), false},
		{of(256, 5, 1, 2, 3, 2), false},
		{of(1<<16, 5, 1, 2, 3, 2), false},
		{of(1<<31, 5, 1, 2, 3, 2), false},
		{of(greatest, 5, 1, 2, 3, 2), false},
		{Win{}, false}, // a ring that isn't right
		{of(0, 5, 1, 0, 3, 2), false},
		{of(7, 5, 1, 0, 3, 2), false},
		{of(12, 5, 1, 0, 3, 2), false},
		{of(12, 5, 1, 4, 3, 2), false},
		{of(12, 5, 4, 2, 3, 2), false},
		{of(12, 0, 1, 3, 3, 4), false},
		{of(12, 0, 1, 3, greatest, 3), false},
		{of(13, 5, 1, 0, 3, 2), false}, // both
		{of(greatest, 5, 4, 4, 4, 4), false},
	} {
		if got := Right(c.w); got != c.want {
			t.Errorf("Right(%v): %t; want %t", c.w, got, c.want)
		}
	}
}

// P7.1: all rings of counts up to one above PerSub, at each Last, with Mins about Window.
func TestRightOfAll(t *testing.T) {
	for _, last := range lasts() {
		for n := range uint32(625) {
			for _, least := range []uint32{0, 1, 6, 11, 12, 13, 14, 15, 24, 1 << 31, greatest} {
				w := of(least, last, n%5, n/5%5, n/25%5, n/125)
				if got := Right(w); got != right(w) {
					t.Errorf("Right(%v): %t", w, got)
				}
			}
		}
	}
}

// holdPut holds one block more against what it must become.
func holdPut(t *testing.T, w Win, s uint32, want Win, wantFailed api.Errno) {
	t.Helper()
	if got, failed := Put(w, s); got != want || failed != wantFailed {
		t.Errorf("Put(%v, %d): %v, %d; want %v, %d", w, s, got, failed, want, wantFailed)
	}
}

// P7.2: a slot whose sub-window is ahead of Last, or full: ring.Put's error, and no
// window state beside it.
func TestPutErrors(t *testing.T) {
	for _, c := range []struct {
		w      Win
		from   uint32 // three slots of a sub-window, from this one on
		failed api.Errno
	}{
		{of(7, 5, 1, 2, 3, 2), 12, api.ErrSlot}, // ahead of Last
		{of(7, 5, 1, 2, 3, 2), 9, api.ErrSlot},
		{of(7, 5, 1, 2, 3, 2), 3, api.ErrSlot},
		{of(7, 5, 1, 2, 3, 2), 0, api.ErrSlot},
		{of(0, 1, 0, 1, 0, 0), 0, api.ErrSlot}, // all of it ahead of Grace
		{of(12, 4, 1, 0, 0, 0), 9, api.ErrSlot},
		{of(7, 5, 1, 3, 3, 2), 12, api.ErrSlot}, // and Last is full
		{of(7, 1000, 1, 2, 3, 2), 2997, api.ErrSlot},
		{of(7, lastSub, 1, 2, 3, 2), greatest - 3, api.ErrSlot},
		{of(7, lastSub+1, 1, 2, 3, 2), greatest - 2, api.ErrSlot}, // no slot has that Last
		{of(7, lastSub+1, 1, 2, 3, 2), 0, api.ErrSlot},
		{of(7, greatest, 1, 2, 3, 2), greatest - 2, api.ErrSlot},
		{of(7, greatest, 1, 2, 3, 2), 0, api.ErrSlot},
		{of(7, 5, 1, 3, 3, 2), 15, api.ErrFull}, // full
		{of(12, 5, 0, 3, 0, 0), 15, api.ErrFull},
		{of(0, 0, 3, 0, 0, 0), 0, api.ErrFull}, // ahead of Grace, and at it
		{of(12, 3, 0, 0, 0, 3), 9, api.ErrFull},
		{of(12, 4, 3, 0, 0, 0), 12, api.ErrFull},
		{of(7, 1000, 3, 2, 3, 2), 3000, api.ErrFull},
		{of(7, lastSub-1, 3, 2, 3, 2), greatest - 3, api.ErrFull},
	} {
		for by := range uint32(3) {
			holdPut(t, c.w, c.from+by, Win{}, c.failed)
		}
	}
	holdPut(t, of(7, lastSub, 1, 3, 3, 2), greatest, Win{}, api.ErrFull)
	holdPut(t, of(7, lastSub+1, 1, 2, 3, 2), greatest, Win{}, api.ErrSlot)
}

// P7.2: a block in the sub-window that is Last: no window is looked at, though the one
// ahead has less than Min.
func TestPutInTheSame(t *testing.T) {
	for _, c := range []struct {
		w    Win
		from uint32
		want Win
	}{
		{of(7, 5, 1, 2, 3, 2), 15, of(7, 5, 1, 3, 3, 2)},
		{of(12, 5, 1, 2, 3, 2), 15, of(12, 5, 1, 3, 3, 2)},
		{of(12, 5, 0, 1, 0, 0), 15, of(12, 5, 0, 2, 0, 0)},
		{of(1, 5, 0, 1, 0, 0), 15, of(1, 5, 0, 2, 0, 0)},
		{of(0, 5, 3, 1, 3, 3), 15, of(0, 5, 3, 2, 3, 3)},
		{of(12, 4, 1, 0, 0, 0), 12, of(12, 4, 2, 0, 0, 0)}, // at Grace
		{of(12, 4, 2, 0, 0, 0), 12, of(12, 4, 3, 0, 0, 0)},
		{of(12, 3, 0, 0, 0, 1), 9, of(12, 3, 0, 0, 0, 2)}, // ahead of it
		{of(12, 0, 1, 3, 3, 3), 0, of(12, 0, 2, 3, 3, 3)},
		{of(12, 1000, 1, 0, 0, 0), 3000, of(12, 1000, 2, 0, 0, 0)},
		{of(12, lastSub-1, 1, 0, 0, 0), greatest - 3, of(12, lastSub-1, 2, 0, 0, 0)},
	} {
		for by := range uint32(3) {
			holdPut(t, c.w, c.from+by, c.want, api.OK)
		}
	}
	holdPut(t, of(12, lastSub, 0, 1, 0, 0), greatest, of(12, lastSub, 0, 2, 0, 0), api.OK)
}

// P7.2: the first block of a new sub-window: the window ahead of it is looked at, unless
// the slot is ahead of Grace.
func TestPutInANewOne(t *testing.T) {
	for _, c := range []struct {
		w    Win
		from uint32
		want Win
	}{
		{of(12, 5, 1, 2, 3, 2), 18, of(8, 6, 1, 2, 1, 2)}, // right behind Last
		{of(9, 5, 1, 2, 3, 2), 18, of(8, 6, 1, 2, 1, 2)},
		{of(8, 5, 1, 2, 3, 2), 18, of(8, 6, 1, 2, 1, 2)},
		{of(7, 5, 1, 2, 3, 2), 18, of(7, 6, 1, 2, 1, 2)}, // Min is the lesser one
		{of(0, 5, 1, 2, 3, 2), 18, of(0, 6, 1, 2, 1, 2)},
		{of(12, 5, 1, 2, 3, 2), 21, of(5, 7, 1, 2, 0, 1)}, // further off
		{of(12, 5, 1, 2, 3, 2), 24, of(3, 8, 1, 2, 0, 0)},
		{of(2, 5, 1, 2, 3, 2), 24, of(2, 8, 1, 2, 0, 0)},
		{of(12, 5, 1, 2, 3, 2), 27, of(2, 9, 0, 1, 0, 0)},
		{of(12, 5, 1, 2, 3, 2), 30, of(0, 10, 0, 0, 1, 0)},
		{of(12, 5, 1, 2, 3, 2), 33, of(0, 11, 0, 0, 0, 1)},
		{of(12, 5, 1, 2, 3, 2), 1<<31 - 2, of(0, 715827882, 0, 0, 1, 0)},
		{of(12, 5, 3, 3, 3, 3), 18, of(12, 6, 3, 3, 1, 3)}, // a whole window
		{of(12, 5, 3, 3, 3, 3), 21, of(9, 7, 3, 3, 0, 1)},
		{of(12, 5, 0, 1, 0, 0), 18, of(1, 6, 0, 1, 1, 0)}, // the least one
		{of(12, 0, 1, 3, 3, 3), 3, of(12, 1, 1, 1, 3, 3)}, // ahead of Grace
		{of(12, 0, 1, 3, 3, 3), 6, of(12, 2, 1, 0, 1, 3)},
		{of(12, 0, 1, 3, 3, 3), 9, of(12, 3, 1, 0, 0, 1)},
		{of(12, 0, 1, 0, 0, 0), 9, of(12, 3, 1, 0, 0, 1)},
		{of(12, 2, 0, 0, 1, 0), 9, of(12, 3, 0, 0, 1, 1)},
		{of(5, 2, 0, 0, 1, 0), 9, of(5, 3, 0, 0, 1, 1)},
		{of(12, 0, 1, 3, 3, 3), 12, of(1, 4, 1, 0, 0, 0)}, // at Grace, and just behind it
		{of(12, 0, 1, 0, 0, 0), 12, of(1, 4, 1, 0, 0, 0)},
		{of(12, 3, 1, 0, 0, 1), 12, of(2, 4, 1, 0, 0, 1)},
		{of(12, 3, 3, 3, 3, 3), 12, of(12, 4, 1, 3, 3, 3)},
		{of(12, 3, 1, 0, 0, 1), 15, of(1, 5, 0, 1, 0, 1)},
		{of(12, 0, 1, 3, 3, 3), 15, of(0, 5, 0, 1, 0, 0)},
		{of(12, lastSub-2, 1, 2, 3, 2), greatest - 3, of(8, lastSub-1, 1, 2, 3, 2)}, // the last ones
	} {
		for by := range uint32(3) {
			holdPut(t, c.w, c.from+by, c.want, api.OK)
		}
	}
	holdPut(t, of(12, lastSub-1, 1, 2, 3, 2), greatest, of(8, lastSub, 1, 1, 3, 2), api.OK)
	holdPut(t, of(12, lastSub-2, 1, 2, 3, 2), greatest, of(7, lastSub, 0, 1, 3, 2), api.OK)
	holdPut(t, of(12, 5, 1, 2, 3, 2), greatest, of(0, lastSub, 0, 1, 0, 0), api.OK)
}

// P7.2: the least density as of a slot, where a window would be looked at, and where
// none would.
func TestRelative(t *testing.T) {
	for _, c := range []struct {
		w       Win
		s, want uint32
	}{
		{of(7, 5, 1, 2, 3, 2), 0, 7}, // ahead of Last
		{of(7, 5, 1, 2, 3, 2), 11, 7},
		{of(7, 5, 1, 2, 3, 2), 12, 7},
		{of(12, 5, 0, 1, 0, 0), 14, 12},
		{of(12, 5, 0, 1, 0, 0), 15, 12}, // in Last
		{of(12, 5, 0, 1, 0, 0), 17, 12},
		{of(12, 5, 0, 3, 0, 0), 15, 12}, // in Last that is full
		{of(12, 5, 0, 3, 0, 0), 17, 12},
		{of(12, 5, 0, 3, 0, 0), 18, 3},
		{of(7, 5, 1, 2, 3, 2), 18, 7}, // behind it
		{of(7, 5, 1, 2, 3, 2), 20, 7},
		{of(9, 5, 1, 2, 3, 2), 18, 8},
		{of(9, 5, 1, 2, 3, 2), 20, 8},
		{of(7, 5, 1, 2, 3, 2), 21, 5},
		{of(7, 5, 1, 2, 3, 2), 23, 5},
		{of(4, 5, 1, 2, 3, 2), 23, 4},
		{of(7, 5, 1, 2, 3, 2), 24, 3},
		{of(7, 5, 1, 2, 3, 2), 27, 2},
		{of(7, 5, 1, 2, 3, 2), 29, 2},
		{of(7, 5, 1, 2, 3, 2), 30, 0},
		{of(7, 5, 1, 2, 3, 2), 1 << 31, 0},
		{of(7, 5, 1, 2, 3, 2), greatest, 0},
		{of(0, 5, 3, 3, 3, 3), 18, 0},
		{Genesis(), 0, 12}, // ahead of Grace, and from it on
		{Genesis(), 3, 12},
		{Genesis(), 9, 12},
		{Genesis(), 11, 12},
		{Genesis(), 12, 1},
		{Genesis(), 13, 1},
		{Genesis(), 14, 1},
		{Genesis(), 15, 0},
		{of(5, 0, 1, 0, 0, 0), 11, 5},
		{of(5, 0, 1, 0, 0, 0), 12, 1},
		{of(12, 3, 0, 0, 0, 1), 11, 12},
		{of(12, 3, 0, 0, 0, 1), 12, 1},
		{of(12, 4, 1, 0, 0, 0), 12, 12},
		{of(12, 4, 1, 0, 0, 0), 14, 12},
		{of(12, 4, 1, 0, 0, 0), 15, 1},
		{of(12, lastSub-1, 1, 0, 0, 0), greatest - 1, 12}, // the last slots of all
		{of(12, lastSub-1, 1, 0, 0, 0), greatest, 1},
		{of(12, lastSub, 0, 1, 0, 0), greatest, 12},
		{of(12, lastSub, 0, 3, 0, 0), greatest, 12},
		{of(12, lastSub+1, 0, 0, 1, 0), greatest, 12},
		{of(12, greatest, 0, 0, 0, 1), greatest, 12},
		{of(12, greatest, 0, 0, 0, 1), 0, 12},
	} {
		if got := Relative(c.w, c.s); got != c.want {
			t.Errorf("Relative(%v, %d): %d; want %d", c.w, c.s, got, c.want)
		}
	}
}

// P7.2: all rings that are right, wherever they end, with some Mins, against counting in
// the sub-windows of which they tell; what is put is right again.
func TestAllWins(t *testing.T) {
	for _, last := range lasts() {
		all := slots(last)
		for _, w := range rights(last, 0, 1, 4, 7, 11, 12) {
			for _, s := range all {
				want, wantFailed := counted(w, s)
				got, failed := Put(w, s)
				if got != want || failed != wantFailed || failed == api.OK && !Right(got) {
					t.Errorf("Put(%v, %d): %v, %d; want %v, %d", w, s, got, failed, want, wantFailed)
				}
				if failed != api.OK {
					want = w // no window is looked at
				}
				if got := Relative(w, s); got != want.Min {
					t.Errorf("Relative(%v, %d): %d; want %d", w, s, got, want.Min)
				}
			}
		}
	}
}

// P7.3: Relative of a later slot is never more, and nothing is ever above Min.
func TestLaterIsLess(t *testing.T) {
	for _, last := range lasts() {
		all := slots(last)
		for _, w := range rights(last, 0, 5, 12) {
			was := w.Min
			for _, s := range all {
				got := Relative(w, s)
				if got > was {
					t.Errorf("Relative(%v, %d): %d; was %d", w, s, got, was)
				}
				was = got
			}
		}
	}
}

// history is the slots that have a block, from 0 on.
type history []int64

// window is how many blocks there are in the twelve slots ahead of a slot's sub-window.
func (h history) window(s int64) uint32 {
	end, has := s-s%3, uint32(0)
	for _, block := range h {
		if block >= end-12 && block < end {
			has++
		}
	}
	return has
}

// relative is the least density as of a slot, of which the last block's is one.
func (h history) relative(least uint32, s int64) uint32 {
	if s < 12 || s/3 == h[len(h)-1]/3 {
		return least
	}
	return min(least, h.window(s))
}

// holdHistory puts blocks into slots behind slot 0, so many slots off each other, and
// holds the window state against what is counted, after each one. It tells the last Min.
func holdHistory(t *testing.T, gaps []int64) uint32 {
	t.Helper()
	w, h, least := Genesis(), history{0}, uint32(12)
	s := int64(0)
	for i, gap := range gaps {
		s += gap
		least = h.relative(least, s)
		if got := Relative(w, uint32(s)); got != least {
			t.Errorf("%v: ahead of block %d: %d; want %d", gaps, i+1, got, least)
		}
		next, failed := Put(w, uint32(s))
		if failed != api.OK || next.Min != least || next.Min > w.Min || !Right(next) {
			t.Fatalf("%v: block %d: %v, %d; want Min %d", gaps, i+1, next, failed, least)
		}
		w, h = next, append(h, s)
		for _, off := range []int64{0, 1, 2, 3, 6, 9, 12, 15} {
			if s+off > greatest {
				break
			}
			want := h.relative(least, s+off)
			if got := Relative(w, uint32(s+off)); got != want {
				t.Errorf("%v: behind block %d, %d off: %d; want %d", gaps, i+1, off, got, want)
			}
		}
	}
	return w.Min
}

// P7.3: the first slots filled in all ways, so that windows are had with slot 0 and
// without it. A history is a number: its bit at a slot is whether there is a block.
func TestHistoriesOfFirstSlots(t *testing.T) {
	const most = 18
	wins := make([]Win, 1<<(most+1))
	wins[1] = Genesis()
	mins := map[uint32]int{}
	for filled := uint64(1); filled < 1<<(most+1); filled += 2 {
		last := bits.Len64(filled) - 1
		if last > 0 {
			ahead := filled &^ (1 << last)
			next, failed := Put(wins[ahead], uint32(last))
			if failed != api.OK {
				t.Fatalf("%b: %d", filled, failed)
			}
			if next.Min > wins[ahead].Min {
				t.Errorf("%b: Min %d; was %d", filled, next.Min, wins[ahead].Min)
			}
			wins[filled] = next
		}
		if got, want := wins[filled].Min, leastOf(filled); got != want {
			t.Errorf("%b: Min %d; want %d", filled, got, want)
		}
		mins[wins[filled].Min]++
	}
	if len(mins) != 13 {
		t.Errorf("only some Mins are reached: %v", mins)
	}
}

// leastOf is the least of Window and all that the windows have that are looked at.
func leastOf(filled uint64) uint32 {
	least, fresh := 12, true
	for s := range 64 {
		if s%3 == 0 {
			fresh = true
		}
		if filled>>s&1 == 0 {
			continue
		}
		if fresh && s >= 12 {
			end := s - s%3
			least = min(least, bits.OnesCount64(filled>>(end-12)&(1<<12-1)))
		}
		fresh = false
	}
	return uint32(least)
}

// P7.3: all short histories of gaps of less than a window, of one, and of more.
func TestHistoriesOfGaps(t *testing.T) {
	sizes := []int64{1, 2, 3, 4, 9, 11, 12, 13, 15, 24, 1 << 20}
	for n := range 11 * 11 * 11 * 11 {
		holdHistory(t, []int64{sizes[n%11], sizes[n/11%11], sizes[n/121%11], sizes[n/1331]})
	}
}

// gapsOf tells a count of gaps of 1, but the last one of each so many is of 2 (of 0: none is).
func gapsOf(count, each int) []int64 {
	var gaps []int64
	for n := range count {
		gap := int64(1)
		if each > 0 && n%each == each-1 {
			gap = 2
		}
		gaps = append(gaps, gap)
	}
	return gaps
}

// P7.3: long histories, as dense as may be, and ever less dense.
func TestHistoriesLong(t *testing.T) {
	for _, c := range []struct {
		each int
		want uint32
	}{
		{0, 12}, // every slot has a block
		{1000, 12},
		{100, 11},
		{9, 10},
		{4, 9},
		{2, 8},
		{1, 6}, // every other one
	} {
		if got := holdHistory(t, gapsOf(400, c.each)); got != c.want {
			t.Errorf("each gap of %d: Min %d; want %d", c.each, got, c.want)
		}
	}
	if got := holdHistory(t, append(gapsOf(400, 100), 7, 1, 30, 1)); got != 0 {
		t.Errorf("behind a gap: Min %d", got)
	}
}

// P7.3: once low, Min stays, whatever comes.
func TestMinStays(t *testing.T) {
	gaps := append([]int64{14, 1}, gapsOf(100, 0)...)
	if got := holdHistory(t, gaps); got != 1 {
		t.Errorf("Min %d; want 1", got)
	}
}

// P7.3: the last slots of all, in a history from slot 0 on.
func TestHistoryUpToTheGreatest(t *testing.T) {
	if got := holdHistory(t, []int64{1, 1, 1, greatest - 20, 1, 1, 3, 5, 3, 3, 1}); got != 0 {
		t.Errorf("Min %d; want 0", got)
	}
}

// R1: of window states that aren't right, and all else, calls end.
func TestWhateverIsGiven(t *testing.T) {
	for _, w := range []Win{
		{},
		of(13, 5, 1, 2, 3, 2),
		of(greatest, greatest, greatest, greatest, greatest, greatest),
		of(12, lastSub, 0, 0, 0, 0),
		of(12, 4, 0, 3, 3, 3),
		of(12, 0, 4, greatest, greatest, greatest),
	} {
		for _, s := range slots(w.Ring.Last) {
			Right(w)
			Put(w, s)
			Relative(w, s)
		}
	}
}

// R3: a window state that is handed in stays as it was.
func TestArgumentsStay(t *testing.T) {
	for _, was := range []Win{Genesis(), of(7, 5, 1, 2, 3, 2), of(12, 5, 1, 3, 3, 2), of(13, 4, 0, 4, 4, 4)} {
		w := was
		Right(w)
		for _, s := range slots(w.Ring.Last) {
			Put(w, s)
			Relative(w, s)
		}
		if w != was {
			t.Errorf("%v became %v", was, w)
		}
	}
}

// R4, R5: the same calls answer the same, whatever was asked in between.
func TestTheSameAgain(t *testing.T) {
	type question struct {
		w Win
		s uint32
	}
	type answers struct {
		genesis, put Win
		right        bool
		relative     uint32
		failed       api.Errno
	}
	ask := func(q question) answers {
		out := answers{genesis: Genesis(), right: Right(q.w), relative: Relative(q.w, q.s)}
		out.put, out.failed = Put(q.w, q.s)
		return out
	}
	var all []question
	for _, w := range []Win{Genesis(), of(7, 5, 1, 2, 3, 2), of(12, 5, 1, 3, 3, 2), of(9, lastSub-2, 3, 1, 0, 2)} {
		for _, s := range slots(w.Ring.Last) {
			all = append(all, question{w, s})
		}
	}
	was := map[question]answers{}
	for _, q := range all {
		was[q] = ask(q)
	}
	for i := range all {
		q := all[len(all)-1-i]
		if got := ask(q); got != was[q] {
			t.Errorf("%+v: %+v; was %+v", q, got, was[q])
		}
	}
}
