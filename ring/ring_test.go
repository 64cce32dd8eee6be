package ring

import (
	"math"
	"testing"

	"almagest/api"
)

const greatest = math.MaxUint32

func of(last, a, b, c, d uint32) Ring {
	return Ring{last, [api.Subs]uint32{a, b, c, d}}
}

// history is how many blocks each sub-window has, and the last one that has any.
// Its numbers go below 0, for there are sub-windows ahead of 0.
type history struct {
	last   int64
	blocks map[int64]uint32
}

// first is the history of one block in the sub-window 0, with full ones ahead.
func first() history {
	return history{0, map[int64]uint32{-5: 3, -4: 3, -3: 3, -2: 3, -1: 3, 0: 1}}
}

// told is a history of a ring that is right: its counts are spread out over the
// sub-windows up to Last by going back one by one.
func told(r Ring) history {
	at := int(r.Last & 3) // the remainder by 4
	h := history{int64(r.Last), map[int64]uint32{}}
	for back := range int64(4) {
		h.blocks[h.last-back] = r.Counts[at]
		if at--; at < 0 {
			at = 3
		}
	}
	return h
}

// put is one block more, if it may be.
func (h *history) put(sub int64) api.Errno {
	if sub < h.last {
		return api.ErrSlot
	}
	if sub == h.last && h.blocks[sub] == 3 {
		return api.ErrFull
	}
	h.last = sub
	h.blocks[sub]++
	return api.OK
}

// window is how many blocks the four sub-windows up to one have.
func (h history) window(upTo int64) uint32 {
	return h.blocks[upTo-3] + h.blocks[upTo-2] + h.blocks[upTo-1] + h.blocks[upTo]
}

// ring is the ring of a history: each of the last four sub-windows in its place.
func (h history) ring() Ring {
	r := Ring{Last: uint32(h.last)}
	for back := range int64(4) {
		r.Counts[(h.last-back)&3] = h.blocks[h.last-back]
	}
	return r
}

// offs tells sub-windows to ask for: near one, far off it, and the greatest.
func offs(last uint32) []uint32 {
	var subs []uint32
	for _, by := range []int64{
		-greatest, -1 << 31, -9, -8, -7, -6, -5, -4, -3, -2, -1, 0,
		1, 2, 3, 4, 5, 6, 7, 8, 9, 100, 1<<31 - 1, 1 << 31, 1<<31 + 1, greatest,
	} {
		if sub := int64(last) + by; sub >= 0 && sub <= greatest {
			subs = append(subs, uint32(sub))
		}
	}
	return append(subs, 0, greatest-1, greatest)
}

// lasts tells sub-windows where rings may end: at 0 and at each ring place, near 0,
// about 2^31, and up to the greatest one.
func lasts() []uint32 {
	return []uint32{
		0, 1, 2, 3, 4, 5, 6, 7, 1000, 1000001,
		1<<31 - 2, 1<<31 - 1, 1 << 31, 1<<31 + 1,
		greatest - 7, greatest - 6, greatest - 5, greatest - 4,
		greatest - 3, greatest - 2, greatest - 1, greatest,
	}
}

// rights tells all rings that are right and have one sub-window as Last.
func rights(last uint32) []Ring {
	var all []Ring
	for n := range uint32(256) {
		r := of(last, n&3, n>>2&3, n>>4&3, n>>6)
		if r.Counts[last&3] > 0 {
			all = append(all, r)
		}
	}
	return all
}

// P6.2: the chapter's example.
func TestExample(t *testing.T) {
	r := Genesis()
	for _, sub := range []uint32{0, 2} {
		next, failed := Put(r, sub)
		if failed != api.OK {
			t.Fatalf("Put(%v, %d): %d", r, sub, failed)
		}
		r = next
	}
	if r != of(2, 2, 0, 1, 3) {
		t.Errorf("%v", r)
	}
}

// P6.1: one block in the sub-window 0, and full ones ahead of it.
func TestGenesis(t *testing.T) {
	r := Genesis()
	if r != of(0, 1, 3, 3, 3) || !Right(r) || Sum(r) != 10 {
		t.Errorf("%v: %t, %d", r, Right(r), Sum(r))
	}
}

// P6.1: rings that are right, and that aren't, written out by hand.
func TestRight(t *testing.T) {
	for _, c := range []struct {
		r    Ring
		want bool
	}{
		{of(0, 1, 0, 0, 0), true}, // the least and the greatest one of each ring place
		{of(0, 3, 3, 3, 3), true},
		{of(1, 0, 1, 0, 0), true},
		{of(1, 3, 3, 3, 3), true},
		{of(2, 0, 0, 1, 0), true},
		{of(2, 3, 3, 3, 3), true},
		{of(3, 0, 0, 0, 1), true},
		{of(3, 3, 3, 3, 3), true},
		{of(greatest, 0, 0, 0, 1), true},
		{of(greatest, 3, 3, 3, 3), true},
		{of(5, 1, 2, 3, 2), true},
		{of(0, 0, 0, 0, 0), false}, // none in Last's sub-window
		{of(0, 0, 3, 3, 3), false},
		{of(1, 3, 0, 3, 3), false},
		{of(2, 3, 3, 0, 3), false},
		{of(3, 3, 3, 3, 0), false},
		{of(4, 0, 3, 3, 3), false},
		{of(5, 3, 0, 3, 3), false},
		{of(greatest, 3, 3, 3, 0), false},
		{of(greatest-1, 3, 3, 0, 3), false},
		{of(0, 4, 0, 0, 0), false}, // one above PerSub, in Last's place and elsewhere
		{of(0, 1, 4, 0, 0), false},
		{of(0, 1, 0, 4, 0), false},
		{of(0, 1, 0, 0, 4), false},
		{of(1, 4, 1, 0, 0), false},
		{of(1, 0, 4, 0, 0), false},
		{of(2, 0, 0, 4, 0), false},
		{of(3, 0, 0, 0, 4), false},
		{of(3, 4, 0, 0, 1), false},
		{of(greatest, 3, 3, 3, 4), false},
		{of(greatest, 4, 3, 3, 3), false},
		{of(7, 4, 4, 4, 4), false},
		{of(7, 4, 0, 0, 0), false}, // both faults at once
		{of(0, greatest, 0, 0, 0), false},
		{of(0, 1, greatest, 0, 0), false},
		{of(0, 1, 0, 1<<31, 0), false},
		{of(0, 1, 0, 0, 256), false},
	} {
		if got := Right(c.r); got != c.want {
			t.Errorf("Right(%v): %t; want %t", c.r, got, c.want)
		}
	}
}

// P6.1: all rings of counts up to one above PerSub, at each Last.
func TestRightOfAll(t *testing.T) {
	for _, last := range lasts() {
		right := 0
		for n := range uint32(625) {
			r := of(last, n%5, n/5%5, n/25%5, n/125)
			want := r.Counts[0] < 4 && r.Counts[1] < 4 && r.Counts[2] < 4 && r.Counts[3] < 4
			want = want && told(r).blocks[int64(last)] != 0
			if Right(r) != want {
				t.Errorf("Right(%v): %t", r, !want)
			}
			if Right(r) {
				right++
			}
		}
		if right != 192 { // three counts of 0 to 3, and one of 1 to 3
			t.Errorf("Last %d: %d rings are right; want 192", last, right)
		}
	}
}

// P6.1: sums, from the least to the greatest one of a ring that is right.
func TestSum(t *testing.T) {
	for _, c := range []struct {
		r    Ring
		want uint32
	}{
		{of(0, 1, 0, 0, 0), 1},
		{of(1, 0, 1, 0, 0), 1},
		{of(2, 0, 0, 1, 0), 1},
		{of(greatest, 0, 0, 0, 1), 1},
		{of(5, 1, 2, 3, 2), 8},
		{of(6, 0, 3, 2, 1), 6},
		{of(0, 3, 3, 3, 3), 12},
		{of(1<<31, 3, 3, 3, 3), 12},
		{of(greatest, 3, 3, 3, 3), 12},
	} {
		if got := Sum(c.r); got != c.want {
			t.Errorf("Sum(%v): %d; want %d", c.r, got, c.want)
		}
	}
}

// P6.2: windows ahead of sub-windows, written out by hand; beside ErrSlot there
// are none.
func TestBefore(t *testing.T) {
	for _, c := range []struct {
		r         Ring
		sub, want uint32
		failed    api.Errno
	}{
		{of(5, 1, 2, 3, 2), 5, 0, api.ErrSlot}, // Last itself, and ahead of it
		{of(5, 1, 2, 3, 2), 4, 0, api.ErrSlot},
		{of(5, 1, 2, 3, 2), 1, 0, api.ErrSlot},
		{of(5, 1, 2, 3, 2), 0, 0, api.ErrSlot},
		{of(5, 1, 2, 3, 2), 6, 8, api.OK}, // each one behind it
		{of(5, 1, 2, 3, 2), 7, 5, api.OK},
		{of(5, 1, 2, 3, 2), 8, 3, api.OK},
		{of(5, 1, 2, 3, 2), 9, 2, api.OK},
		{of(5, 1, 2, 3, 2), 10, 0, api.OK},
		{of(5, 1, 2, 3, 2), 11, 0, api.OK},
		{of(5, 1, 2, 3, 2), 1 << 31, 0, api.OK},
		{of(5, 1, 2, 3, 2), greatest, 0, api.OK},
		{Genesis(), 0, 0, api.ErrSlot},
		{Genesis(), 1, 10, api.OK}, // ones ahead of 0 are told of, too
		{Genesis(), 2, 7, api.OK},
		{Genesis(), 3, 4, api.OK},
		{Genesis(), 4, 1, api.OK},
		{Genesis(), 5, 0, api.OK},
		{Genesis(), 6, 0, api.OK},
		{Genesis(), greatest, 0, api.OK},
		{of(0, 2, 0, 1, 0), 1, 3, api.OK}, // whatever they have
		{of(0, 2, 0, 1, 0), 2, 3, api.OK},
		{of(0, 2, 0, 1, 0), 3, 2, api.OK},
		{of(0, 2, 0, 1, 0), 4, 2, api.OK},
		{of(0, 2, 0, 1, 0), 5, 0, api.OK},
		{of(greatest-1, 1, 2, 3, 2), greatest - 2, 0, api.ErrSlot},
		{of(greatest-1, 1, 2, 3, 2), greatest - 1, 0, api.ErrSlot},
		{of(greatest-1, 1, 2, 3, 2), greatest, 8, api.OK},
		{of(greatest-2, 1, 2, 3, 2), greatest, 5, api.OK},
		{of(greatest-3, 1, 2, 3, 2), greatest, 3, api.OK},
		{of(greatest-4, 1, 2, 3, 2), greatest, 2, api.OK},
		{of(greatest-5, 1, 2, 3, 2), greatest, 0, api.OK},
		{of(greatest, 1, 2, 3, 2), greatest, 0, api.ErrSlot}, // nothing is behind the greatest
		{of(greatest, 1, 2, 3, 2), greatest - 1, 0, api.ErrSlot},
		{of(greatest, 1, 2, 3, 2), 0, 0, api.ErrSlot},
		{of(greatest, 1, 2, 3, 2), 1, 0, api.ErrSlot},
	} {
		if got, failed := Before(c.r, c.sub); got != c.want || failed != c.failed {
			t.Errorf("Before(%v, %d): %d, %d; want %d, %d", c.r, c.sub, got, failed, c.want, c.failed)
		}
	}
}

// P6.2: rings with one block more, written out by hand; beside an error there is none.
func TestPut(t *testing.T) {
	for _, c := range []struct {
		r      Ring
		sub    uint32
		want   Ring
		failed api.Errno
	}{
		{of(5, 1, 2, 3, 2), 4, Ring{}, api.ErrSlot}, // ahead of Last
		{of(5, 1, 2, 3, 2), 1, Ring{}, api.ErrSlot},
		{of(5, 1, 2, 3, 2), 0, Ring{}, api.ErrSlot},
		{of(5, 1, 3, 3, 2), 4, Ring{}, api.ErrSlot}, // and there, too, if Last is full
		{of(5, 1, 2, 3, 2), 5, of(5, 1, 3, 3, 2), api.OK},
		{of(5, 1, 1, 3, 2), 5, of(5, 1, 2, 3, 2), api.OK},
		{of(5, 1, 3, 3, 2), 5, Ring{}, api.ErrFull},
		{of(5, 0, 3, 0, 0), 5, Ring{}, api.ErrFull},
		{of(5, 1, 2, 3, 2), 6, of(6, 1, 2, 1, 2), api.OK}, // each one behind it
		{of(5, 1, 2, 3, 2), 7, of(7, 1, 2, 0, 1), api.OK},
		{of(5, 1, 2, 3, 2), 8, of(8, 1, 2, 0, 0), api.OK},
		{of(5, 1, 2, 3, 2), 9, of(9, 0, 1, 0, 0), api.OK},
		{of(5, 1, 2, 3, 2), 10, of(10, 0, 0, 1, 0), api.OK},
		{of(5, 1, 2, 3, 2), 11, of(11, 0, 0, 0, 1), api.OK},
		{of(5, 1, 2, 3, 2), 1 << 31, of(1<<31, 1, 0, 0, 0), api.OK},
		{of(5, 1, 2, 3, 2), greatest, of(greatest, 0, 0, 0, 1), api.OK},
		{of(5, 3, 3, 3, 3), 6, of(6, 3, 3, 1, 3), api.OK}, // full ones are left behind
		{of(5, 3, 3, 3, 3), 8, of(8, 1, 3, 0, 0), api.OK},
		{of(5, 3, 3, 3, 3), 9, of(9, 0, 1, 0, 0), api.OK},
		{Genesis(), 0, of(0, 2, 3, 3, 3), api.OK},
		{Genesis(), 1, of(1, 1, 1, 3, 3), api.OK},
		{Genesis(), 2, of(2, 1, 0, 1, 3), api.OK},
		{Genesis(), 3, of(3, 1, 0, 0, 1), api.OK},
		{Genesis(), 4, of(4, 1, 0, 0, 0), api.OK},
		{Genesis(), 5, of(5, 0, 1, 0, 0), api.OK},
		{Genesis(), 6, of(6, 0, 0, 1, 0), api.OK},
		{Genesis(), greatest, of(greatest, 0, 0, 0, 1), api.OK},
		{of(greatest-1, 1, 2, 3, 2), greatest, of(greatest, 1, 2, 3, 1), api.OK},
		{of(greatest-1, 1, 2, 3, 3), greatest, of(greatest, 1, 2, 3, 1), api.OK},
		{of(greatest-2, 1, 2, 3, 2), greatest, of(greatest, 1, 2, 0, 1), api.OK},
		{of(greatest-3, 1, 2, 3, 2), greatest, of(greatest, 1, 0, 0, 1), api.OK},
		{of(greatest-4, 1, 2, 3, 2), greatest, of(greatest, 0, 0, 0, 1), api.OK},
		{of(greatest-5, 1, 2, 3, 2), greatest, of(greatest, 0, 0, 0, 1), api.OK},
		{of(greatest, 1, 2, 3, 2), greatest, of(greatest, 1, 2, 3, 3), api.OK},
		{of(greatest, 1, 2, 3, 3), greatest, Ring{}, api.ErrFull},
		{of(greatest, 1, 2, 3, 2), greatest - 1, Ring{}, api.ErrSlot},
		{of(greatest, 1, 2, 3, 2), 0, Ring{}, api.ErrSlot}, // not just behind the greatest
		{of(greatest, 1, 2, 3, 3), 3, Ring{}, api.ErrSlot},
	} {
		if got, failed := Put(c.r, c.sub); got != c.want || failed != c.failed {
			t.Errorf("Put(%v, %d): %v, %d; want %v, %d", c.r, c.sub, got, failed, c.want, c.failed)
		}
	}
}

// P6.2: all rings that are right, wherever they end, against counting in a history
// that they tell of; what is put is right again.
func TestAllRings(t *testing.T) {
	for _, last := range lasts() {
		for _, r := range rights(last) {
			for _, sub := range offs(last) {
				h, want := told(r), uint32(0)
				before, failed := Before(r, sub)
				if failed == api.OK {
					want = h.window(int64(sub) - 1)
				}
				if before != want || (failed == api.OK) != (sub > last) || sub <= last && failed != api.ErrSlot {
					t.Errorf("Before(%v, %d): %d, %d; want %d", r, sub, before, failed, want)
				}
				wantRing, wantFailed := Ring{}, h.put(int64(sub))
				if wantFailed == api.OK {
					wantRing = h.ring()
				}
				got, failed := Put(r, sub)
				if got != wantRing || failed != wantFailed || failed == api.OK && !Right(got) {
					t.Errorf("Put(%v, %d): %v, %d; want %v, %d", r, sub, got, failed, wantRing, wantFailed)
				}
			}
		}
	}
}

// holdHistory puts blocks into slots behind slot 0, so many slots off each other,
// and holds the ring against what is counted, after each one.
func holdHistory(t *testing.T, gaps []int64) {
	t.Helper()
	r, h := Genesis(), first()
	s := int64(0)
	for i, gap := range gaps {
		s += gap
		sub := s / 3
		if sub > h.last {
			want := h.window(sub - 1)
			if got, failed := Before(r, uint32(sub)); got != want || failed != api.OK {
				t.Errorf("%v: ahead of block %d: %d, %d; want %d", gaps, i+1, got, failed, want)
			}
		}
		next, failed := Put(r, uint32(sub))
		if counted := h.put(sub); counted != api.OK || failed != api.OK {
			t.Fatalf("%v: block %d: %d, %d", gaps, i+1, failed, counted)
		}
		r = next
		if r != h.ring() || !Right(r) || Sum(r) != h.window(h.last) {
			t.Errorf("%v: behind block %d: %v; want %v", gaps, i+1, r, h.ring())
		}
		for off := range int64(7) {
			want := h.window(h.last + off)
			if got, failed := Before(r, uint32(h.last+off+1)); got != want || failed != api.OK {
				t.Errorf("%v: behind block %d: Before of %d more: %d, %d; want %d", gaps, i+1, off+1, got, failed, want)
			}
		}
	}
}

// P6.3: the first slots filled in all ways, so that gaps are of up to a window.
func TestHistoriesOfFirstSlots(t *testing.T) {
	const slots = 13
	for filled := range 1 << slots {
		var gaps []int64
		gap := int64(0)
		for at := range slots {
			gap++
			if filled>>at&1 == 1 {
				gaps, gap = append(gaps, gap), 0
			}
		}
		holdHistory(t, gaps)
	}
}

// P6.3: all short histories of gaps of less than a window, of one, and of more.
func TestHistoriesOfGaps(t *testing.T) {
	sizes := []int64{1, 2, 3, 4, 9, 11, 12, 13, 15, 24, 1 << 20}
	for n := range 11 * 11 * 11 * 11 {
		holdHistory(t, []int64{sizes[n%11], sizes[n/11%11], sizes[n/121%11], sizes[n/1331]})
	}
}

// P6.3: a long history, in which short and long gaps take turns.
func TestHistoryLong(t *testing.T) {
	var gaps []int64
	for n := range int64(3000) {
		gap := 1 + n*n%7
		if n%11 == 5 {
			gap = n % 40 // more than a window, too
		}
		gaps = append(gaps, max(gap, 1))
	}
	holdHistory(t, gaps)
}

// P6.3: the last slots of all, in a history from slot 0 on.
func TestHistoryUpToTheGreatest(t *testing.T) {
	holdHistory(t, []int64{1, 1, 1, greatest - 20, 1, 1, 3, 5, 3, 3, 1})
}

// P6.3: the further off a sub-window, the fewer blocks are ahead of it, till there
// are none: at first all of the ring, and none where all of it is left behind.
func TestFurtherIsFewer(t *testing.T) {
	for _, last := range lasts()[:14] {
		for _, r := range rights(last) {
			was := Sum(r)
			for off := uint32(1); off < 12; off++ {
				got, failed := Before(r, last+off)
				if failed != api.OK || got > was {
					t.Errorf("Before(%v, %d): %d, %d; was %d", r, last+off, got, failed, was)
				}
				if off == 1 && got != was || off == 4 && got == 0 || off > 4 && got != 0 {
					t.Errorf("Before(%v, %d): %d", r, last+off, got)
				}
				was = got
			}
		}
	}
}

// R3: a ring that is handed in stays as it was.
func TestArgumentsStay(t *testing.T) {
	for _, was := range []Ring{Genesis(), of(5, 1, 2, 3, 2), of(5, 1, 3, 3, 2), of(3, 4, 4, 4, 0)} {
		r := was
		Right(r)
		Sum(r)
		for sub := range uint32(12) {
			Before(r, sub)
			Put(r, sub)
		}
		if r != was {
			t.Errorf("%v became %v", was, r)
		}
	}
}

// R4, R5: the same calls answer the same, whatever was asked in between.
func TestTheSameAgain(t *testing.T) {
	type question struct {
		r   Ring
		sub uint32
	}
	type answers struct {
		genesis, put             Ring
		right                    bool
		sum, before              uint32
		putFailed, whetherBefore api.Errno
	}
	ask := func(q question) answers {
		out := answers{genesis: Genesis(), right: Right(q.r), sum: Sum(q.r)}
		out.before, out.whetherBefore = Before(q.r, q.sub)
		out.put, out.putFailed = Put(q.r, q.sub)
		return out
	}
	var all []question
	for _, r := range []Ring{Genesis(), of(5, 1, 2, 3, 2), of(5, 1, 3, 3, 2), of(greatest-2, 3, 1, 0, 2)} {
		for _, sub := range offs(r.Last) {
			all = append(all, question{r, sub})
		}
	}
	was := map[question]answers{}
	for _, q := range all {
		was[q] = ask(q)
	}
	for i := range all {
		q := all[len(all)-1-i]
		if got := ask(q); got != was[q] {
			t.Errorf("%+v: %+v; was %+v", q, got, was[q])
		}
	}
}
