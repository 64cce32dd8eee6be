package link

import (
	"math/rand"
	"slices"
	"testing"

	"almagest/api"
	"almagest/grow"
	"almagest/state"
)

// line tells a chain of many states, some close to one another, some far off.
func line(t *testing.T, many int) []state.State {
	t.Helper()
	var slots []uint32
	slot := uint32(0)
	for n := range many - 1 {
		slot += []uint32{1, 1, 2, 3, 7, 12, 1, 24, 60}[n%9]
		slots = append(slots, slot)
	}
	return chain(t, running(7), slots...)
}

// holdLine holds what is told of states.
func holdLine(t *testing.T, l []state.State, many int, want api.Errno) {
	t.Helper()
	if got, failed := Line(l); got != many || failed != want {
		t.Errorf("of %d: %d, %d; want %d, %d", len(l), got, failed, many, want)
	}
}

// P11.2: the chapter's example: a chain of three.
func TestExample(t *testing.T) {
	holdLine(t, three(), 3, api.OK)
	holdLine(t, chain(t, running(7), 3, 30), 3, api.OK)
	holdLine(t, chain(t, running(200), 1, 2), 3, api.OK)
}

// P11.2, R6: of no state 0 and OK, whether there is a list or none.
func TestLineOfNone(t *testing.T) {
	holdLine(t, nil, 0, api.OK)
	holdLine(t, []state.State{}, 0, api.OK)
	holdLine(t, three()[:0], 0, api.OK)
}

// P11.2: of one state 1: there is none ahead of it.
func TestLineOfOne(t *testing.T) {
	for _, s := range append(parents(), at(greatest)) {
		holdRight(t, s)
		holdLine(t, []state.State{s}, 1, api.OK)
	}
}

// P11.2: of two, the second of which follows, or has an error.
func TestLineOfTwo(t *testing.T) {
	each(t, func(parent, c state.State) {
		holdLine(t, []state.State{parent, c}, 2, api.OK)
		holdLine(t, []state.State{parent, changed(c, func(s *state.State) { s.Prev[7]++ })}, 1, api.ErrLink)
		holdLine(t, []state.State{parent, changed(c, func(s *state.State) { s.Length-- })}, 1, api.ErrLink)
		holdLine(t, []state.State{parent, parent}, 1, api.ErrSlot)
		holdLine(t, []state.State{c, parent}, 1, api.ErrSlot)
		holdLine(t, []state.State{c, c}, 1, api.ErrSlot)
	})
	long := changed(at(greatest-1), func(s *state.State) { s.Length = greatest })
	holdLine(t, []state.State{long, at(greatest)}, 1, api.ErrOver)
	holdLine(t, []state.State{long, long}, 1, api.ErrSlot)
	full := changed(later(), func(s *state.State) { s.Win.Ring.Counts[1] = 3 })
	holdLine(t, []state.State{full, at(41)}, 1, api.ErrFull)
	holdLine(t, []state.State{full, child(t, full, 42)}, 2, api.OK)
}

// P11.2: of a chain, of each beginning of it and each end, and all between.
func TestEachPartOfAChain(t *testing.T) {
	l := line(t, 40)
	for from := range l {
		for to := from; to <= len(l); to++ {
			holdLine(t, l[from:to], to-from, api.OK)
		}
	}
}

// P11.2: of many.
func TestLineOfMany(t *testing.T) {
	l := line(t, 3000)
	holdLine(t, l, 3000, api.OK)
	l[2999].Prev[0]++
	holdLine(t, l, 2999, api.ErrLink)
	l[2000].Length++
	holdLine(t, l, 2000, api.ErrLink)
	l[1000] = l[999]
	holdLine(t, l, 1000, api.ErrSlot)
	l[1].Slot = 0
	holdLine(t, l, 1, api.ErrSlot)
}

// P11.2: up to the greatest slot, behind which there is none.
func TestLineUpToTheGreatest(t *testing.T) {
	l := chain(t, running(7), 5, 1<<31, lastFirst-1, lastFirst, greatest-1, greatest)
	holdLine(t, l, 7, api.OK)
	for _, s := range []state.State{l[6], l[5], l[0], at(greatest), {}} {
		holdLine(t, append(slices.Clone(l), s), 7, api.ErrSlot)
		holdLine(t, append(slices.Clone(l), s, l[1], l[2]), 7, api.ErrSlot)
	}
}

// P11.2: a state that doesn't follow, at each place: the second, those in the middle, and
// the last one.
func TestOneThatDoesntFollow(t *testing.T) {
	l := line(t, 24)
	for n := range l {
		if n == 0 {
			continue // it has none ahead that it would follow
		}
		for name, c := range map[string]struct {
			change func(s *state.State)
			want   api.Errno
		}{
			"Prev":             {func(s *state.State) { s.Prev[16]++ }, api.ErrLink},
			"Length":           {func(s *state.State) { s.Length++ }, api.ErrLink},
			"Min":              {func(s *state.State) { s.Win.Min++ }, api.ErrLink},
			"Next's Seed":      {func(s *state.State) { s.Epochs.Next.Seed[0]++ }, api.ErrLink},
			"Slot, the same":   {func(s *state.State) { s.Slot = l[n-1].Slot }, api.ErrSlot},
			"Slot, before it":  {func(s *state.State) { s.Slot = l[n-1].Slot - min(1, l[n-1].Slot) }, api.ErrSlot},
			"Slot 0":           {func(s *state.State) { s.Slot = 0 }, api.ErrSlot},
			"none":             {func(s *state.State) { *s = state.State{} }, api.ErrSlot},
			"the first one":    {func(s *state.State) { *s = l[0] }, api.ErrSlot},
			"one of elsewhere": {func(s *state.State) { *s = at(100000) }, api.ErrLink},
		} {
			broken := slices.Clone(l)
			c.change(&broken[n])
			if got, failed := Line(broken); got != n || failed != c.want {
				t.Errorf("%s at %d: %d, %d; want %d", name, n, got, failed, c.want)
			}
		}
	}
}

// P11.2: a state of another block, which follows, while the one behind it doesn't follow it.
func TestOneOfAnotherBlock(t *testing.T) {
	l := line(t, 24)
	for n := 1; n < len(l); n++ {
		other := slices.Clone(l)
		other[n].Ledger[3]++
		want := api.ErrLink
		if n == len(l)-1 {
			want = api.OK // there is none behind it
		}
		holdLine(t, other, n+1, want)
	}
	other := slices.Clone(l)
	other[0].Ledger[3]++ // the first one follows none
	holdRight(t, other[0])
	holdLine(t, other, 1, api.ErrLink)
}

// P11.2: a chain with one left out: the one behind it doesn't follow the one ahead of it.
func TestOneLeftOut(t *testing.T) {
	l := line(t, 24)
	for n := range l {
		less := slices.Delete(slices.Clone(l), n, n+1)
		if n == 0 || n == len(l)-1 {
			holdLine(t, less, 23, api.OK)
			continue
		}
		holdLine(t, less, n, api.ErrLink)
	}
}

// P11.2: a chain with one twice.
func TestOneTwice(t *testing.T) {
	l := line(t, 24)
	for n := range l {
		for many := 1; many < 4; many++ {
			more := slices.Insert(slices.Clone(l), n, slices.Repeat(l[n:n+1], many)...)
			holdLine(t, more, n+1, api.ErrSlot)
		}
	}
}

// P11.2: a chain with two the other way round.
func TestTwoTheOtherWayRound(t *testing.T) {
	l := line(t, 24)
	for i := range l {
		for j := i + 1; j < len(l); j++ {
			turned := slices.Clone(l)
			turned[i], turned[j] = turned[j], turned[i]
			if i == 0 {
				holdLine(t, turned, 1, api.ErrSlot) // whichever stands behind it is of an earlier slot
				continue
			}
			holdLine(t, turned, i, api.ErrLink)
		}
	}
	turned := slices.Clone(l)
	slices.Reverse(turned)
	holdLine(t, turned, 1, api.ErrSlot)
}

// P11.2: of two faults the first one is told.
func TestTwoFaults(t *testing.T) {
	l := line(t, 12)
	for i := 1; i < len(l); i++ {
		for j := i + 2; j < len(l); j++ {
			broken := slices.Clone(l)
			broken[i].Count, broken[j].Slot = 9999, 0
			holdLine(t, broken, i, api.ErrLink)
			broken = slices.Clone(l)
			broken[i].Slot, broken[j].Count = 0, 9999
			holdLine(t, broken, i, api.ErrSlot)
		}
	}
}

// P11.2: two chains that part, one behind the other's beginning.
func TestTwoBranches(t *testing.T) {
	one := chain(t, running(7), 3, 9, 20, 40, 60)
	stem, _, failed := grow.Chain(running(7), []grow.Block{{Slot: 3, Ledger: running(20), Draw: running(60)}})
	if stem != one[1] || failed != api.OK {
		t.Fatalf("%v, %d", stem, failed)
	}
	two := []state.State{one[0], stem}
	for _, slot := range []uint32{10, 21, 41, 61} {
		two = append(two, child(t, two[len(two)-1], slot))
	}
	holdLine(t, one, 6, api.OK)
	holdLine(t, two, 6, api.OK)
	for n := range one {
		want, many := api.ErrLink, n
		if n <= 2 {
			want, many = api.OK, 6 // the first two states are those of both
		}
		holdLine(t, slices.Concat(one[:n], two[n:]), many, want)
	}
}

// P11.2, P11.3: lines of chance, into which states come now and then that don't follow,
// though the ones behind them follow them.
func TestLinesOfChance(t *testing.T) {
	chance := rand.New(rand.NewSource(12))
	met := map[api.Errno]int{}
	for range 300 {
		l := []state.State{state.Genesis(running(byte(chance.Intn(3))))}
		many, want := 0, api.OK
		for n := range 1 + chance.Intn(30) {
			s := child(t, l[n], l[n].Slot+1+uint32(chance.Intn(9)))
			switch {
			case chance.Intn(40) == 0:
				s = l[n]
				if many == 0 {
					many, want = n+1, api.ErrSlot
				}
			case chance.Intn(40) == 0:
				s.Prev = running(5)
				if many == 0 {
					many, want = n+1, api.ErrLink
				}
			}
			l = append(l, s)
		}
		if many == 0 {
			many = len(l)
		}
		holdLine(t, l, many, want)
		met[want]++
	}
	if met[api.OK] < 50 || met[api.ErrSlot] < 20 || met[api.ErrLink] < 20 {
		t.Errorf("only these are met: %v", met)
	}
}

// R1: it ends for whatever it is given.
func TestLineOfWhatever(t *testing.T) {
	holdLine(t, make([]state.State, 5), 1, api.ErrSlot)
	holdLine(t, []state.State{{}, {Slot: 1}, {Slot: 2}}, 1, api.ErrLink)
	holdLine(t, []state.State{{}, at(3), at(2)}, 1, api.ErrLink)
	ahead := changed(later(), func(s *state.State) { s.Win.Ring.Last = greatest })
	holdLine(t, []state.State{ahead, at(41), at(42)}, 1, api.ErrSlot) // window.Put's error
}

// R3: the slice that came in stays as it was, also behind its end.
func TestStatesThatCameInStay(t *testing.T) {
	l := line(t, 12)
	broken := slices.Clone(l)
	broken[5].Prev[1]++
	for _, all := range [][]state.State{l, broken, {l[3], l[2], l[2]}, make([]state.State, 4)} {
		was := slices.Clone(all)
		for n := range len(all) + 1 {
			Line(all[:n])
			if !slices.Equal(all, was) {
				t.Fatalf("%v became %v", was, all)
			}
		}
	}
}

// R4, R5: the same calls answer the same, whatever was asked in between.
func TestLineTheSameAgain(t *testing.T) {
	l := line(t, 12)
	all := [][]state.State{nil, l, l[:1], l[4:], {l[0], l[2]}, {l[1], l[1]}, l[:7], {{}}, {l[3], l[4], l[6]}}
	ask := func(l []state.State) [2]int {
		many, failed := Line(l)
		return [2]int{many, int(failed)}
	}
	var was [][2]int
	for _, l := range all {
		was = append(was, ask(l))
	}
	for range 3 {
		for i := range all {
			n := len(all) - 1 - i
			if got := ask(all[n]); got != was[n] {
				t.Errorf("%d: %v; was %v", n, got, was[n])
			}
		}
	}
}
