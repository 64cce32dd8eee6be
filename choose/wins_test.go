package choose

import (
	"bytes"
	"fmt"
	"math/rand"
	"testing"

	"almagest/api"
	"almagest/order"
	"almagest/state"
	"almagest/window"
)

// byDigest tells the state with the ledger, of those of a byte, that makes its digest
// greater than any other one's does, and the one that makes it less.
func byDigest(s state.State) (most, least state.State) {
	most, least = s, s
	for n := range 20 {
		c := changed(s, ledger(byte(n)))
		if bytes.Compare(key(c), key(most)) > 0 {
			most = c
		}
		if bytes.Compare(key(c), key(least)) < 0 {
			least = c
		}
	}
	return most, least
}

// pairs tells pairs of slots and Locks: near ones, or ones that aren't.
func pairs(near bool) [][2]state.State {
	all := [][2]state.State{
		{at(30, locks(7, 1)), at(30, locks(8, 1))},
		{at(30, locks(7, 1)), at(47, locks(8, 1))},
		{at(39, locks(7, 5)), at(48, locks(5, 5))},
		{at(40, locks(5, 7)), at(48, locks(5, 5))},
		{at(47, locks(5, 5)), at(72, locks(5, 5))},
		{at(47, locks(5, 5)), at(4800, locks(5, 5))},
	}
	if near {
		all = [][2]state.State{
			{at(30, locks(7, 1)), at(30, locks(7, 1))},
			{at(30, locks(7, 1)), at(47, locks(7, 2))},
			{at(40, locks(7, 5)), at(48, locks(5, 9))},
			{at(47, locks(7, 5)), at(71, locks(5, 9))},
			{at(lastEpoch-1, locks(7, 5)), at(greatest, locks(5, 9))},
		}
	}
	return all
}

// P13.1: of near ones the one with the greater Length, Draw or digest wins, though all that
// is behind it in a key, and the density, would tell the other way round.
func TestNearOnesByKey(t *testing.T) {
	for _, p := range pairs(true) {
		for way, turn := range [][2]state.State{p, {p[1], p[0]}} {
			for _, densities := range [][2]uint32{{0, 12}, {12, 12}, {5, 6}, {12, 0}, {0, 0}} {
				winner, loser := changed(turn[0], dense(densities[0])), changed(turn[1], dense(densities[1]))
				holdNear(t, winner, loser, true)
				holdWins(t, changed(winner, long(6), drawn(api.Hash{1})), changed(loser, long(5), drawn(api.Hash{2})))
				holdWins(t, changed(winner, long(6)), changed(loser, long(5)))
				holdWins(t, changed(winner, long(2), drawn(api.Hash{255})), changed(loser, long(1), drawn(api.Hash{255})))
				for _, draws := range [][2]api.Hash{{{1}, {0, 255}}, {{31: 1}, {}}, {{128}, {127}}, {{9, 9}, {9, 8, 255}}} {
					_, less := byDigest(changed(winner, long(4), drawn(draws[0])))
					most, _ := byDigest(changed(loser, long(4), drawn(draws[1])))
					holdWins(t, less, most)
					holdWins(t, changed(winner, long(4), drawn(draws[0])), changed(loser, long(4), drawn(draws[1])))
				}
				most, _ := byDigest(changed(winner, long(4), drawn(api.Hash{3})))
				_, less := byDigest(changed(loser, long(4), drawn(api.Hash{3})))
				holdWins(t, most, less)
			}
			if t.Failed() {
				t.Fatal("slots", p[0].Slot, p[1].Slot, "way", way)
			}
		}
	}
}

// holdByKey holds that of two states as dense as each other, and of one length and draw, the
// one wins that a longer chain, a greater draw or a greater digest makes the greater one.
func holdByKey(t *testing.T, a, b state.State) {
	t.Helper()
	for _, p := range [][2]state.State{{a, b}, {b, a}} {
		holdWins(t, changed(p[0], long(6), drawn(api.Hash{1})), changed(p[1], long(5), drawn(api.Hash{2})))
		holdWins(t, changed(p[0], drawn(api.Hash{1})), changed(p[1], drawn(api.Hash{0, 255})))
		most, _ := byDigest(p[0])
		_, less := byDigest(p[1])
		holdWins(t, most, less)
	}
}

// holdByDensity holds that the denser one of two states wins, though each part of its key
// would tell the other way round.
func holdByDensity(t *testing.T, denser, other state.State) {
	t.Helper()
	_, less := byDigest(denser)
	most, _ := byDigest(other)
	holdWins(t, less, most)
	holdWins(t, denser, changed(other, long(9)))
	holdWins(t, denser, changed(other, drawn(api.Hash{255})))
	holdWins(t, denser, changed(other, long(20), drawn(api.Hash{255})))
	holdWins(t, changed(denser, long(9), drawn(api.Hash{255})), other)
}

// P13.1: of ones that aren't near the denser one wins; with the same densities the one with
// the greater key does.
func TestFarOnesByDensity(t *testing.T) {
	leasts := []uint32{0, 3, 6, 9, 12}
	for _, p := range pairs(false) {
		as := max(p[0].Slot, p[1].Slot)
		same, apart := 0, 0
		for _, one := range leasts {
			for _, other := range leasts {
				a, b := changed(p[0], dense(one), full), changed(p[1], dense(other), full)
				holdNear(t, a, b, false)
				switch by := int(counted(a.Win, as)) - int(counted(b.Win, as)); {
				case by == 0:
					same++
					holdByKey(t, a, b)
				case by > 0:
					apart++
					holdByDensity(t, a, b)
				default:
					apart++
					holdByDensity(t, b, a)
				}
			}
		}
		if same < 5 || apart < 5 {
			t.Error("too few are met", same, apart)
		}
		if t.Failed() {
			t.Fatal("slots", p[0].Slot, p[1].Slot)
		}
	}
}

// P13.1: it is the density as of the later slot that tells, not Min: an elder one's Min is
// greater, but the later the younger one, the fewer blocks its last window has.
func TestDensityAsOfTheLaterSlot(t *testing.T) {
	elder := at(30, dense(12), full, locks(7, 1), long(20))
	for _, c := range []struct {
		slot, least uint32
		elder       bool // the elder one's is the greater one
	}{
		{33, 11, true},
		{36, 10, false},
		{36, 9, true}, // the same density, and the greater key
		{36, 8, true},
		{39, 7, false},
		{39, 5, true},
		{42, 4, false},
		{42, 3, true},
		{45, 1, false},
		{45, 0, true},
		{4500, 1, false},
		{greatest, 1, false},
		{greatest, 0, true},
	} {
		younger := at(c.slot, dense(c.least), locks(8, 8), long(9))
		holdNear(t, elder, younger, false)
		if c.elder {
			holdWins(t, elder, younger)
		} else {
			holdWins(t, younger, elder)
		}
	}
}

// P13.1: with near ones the density isn't asked at all, whatever gap there is.
func TestNearOnesWhateverTheirWindows(t *testing.T) {
	for _, slot := range []uint32{30, 40} {
		for _, later := range []uint32{slot, slot + 3, slot + 13} {
			a, b := at(slot, locks(7, 7), long(5)), at(later, locks(7, 7), long(6))
			holdNear(t, a, b, true)
			for _, one := range rings(slot) {
				for _, other := range rings(later) {
					a.Win, b.Win = one, other
					holdWins(t, b, a)
					holdWins(t, changed(a, long(7)), b)
				}
			}
		}
	}
}

// P13.1: none wins against itself, nor against one that is the same.
func TestNoneAgainstItself(t *testing.T) {
	for _, slot := range []uint32{0, 11, 12, 15, 16, 23, 24, 40, 1 << 31, lastEpoch, greatest} {
		for _, w := range rings(slot) {
			s := at(slot, locks(5, 6))
			s.Win = w
			if same := s; Wins(s, same) {
				t.Errorf("slot %d: %v", slot, w)
			}
		}
	}
	if s := state.Genesis(api.Hash{1}); Wins(s, s) {
		t.Error("the first one")
	}
}

// thing tells a state of chance, a right one, from few values, so that two are often near,
// as dense, or as long.
func thing(chance *rand.Rand) state.State {
	slots := []uint32{24, 27, 38, 39, 40, 41, 47, 48, 50, 63, 64, 71, 72, 100}
	slot := slots[chance.Intn(len(slots))]
	s := at(slot, locks(byte(chance.Intn(2)), byte(chance.Intn(2))), long(2+uint32(chance.Intn(3))), dense(uint32(chance.Intn(4))))
	s.Draw[chance.Intn(2)*31] = byte(chance.Intn(2) * 200)
	s.Prev[0] = byte(chance.Intn(50))
	all := rings(slot)
	s.Win.Ring = all[chance.Intn(len(all))].Ring
	return changed(s)
}

// P13.1, P13.3: of states of chance: whether they are near, their densities, and that just
// one of any two that aren't the same wins; by the chapter's words, and by the layers below.
func TestOfChance(t *testing.T) {
	chance := rand.New(rand.NewSource(131))
	met := map[string]int{}
	for range 15000 {
		a, b := thing(chance), thing(chance)
		holdNear(t, a, b, forked(a, b))
		as := max(a.Slot, b.Slot)
		kept, offered := window.Relative(a.Win, as), window.Relative(b.Win, as)
		holdDensities(t, a, b, kept, offered)
		want := beats(a, b)
		if Wins(a, b) != want || Wins(b, a) != beats(b, a) {
			t.Fatalf("%v, %v: %v, turned %v", a, b, Wins(a, b), Wins(b, a))
		}
		if Wins(a, b) == Wins(b, a) && a != b {
			t.Fatalf("%v, %v: both, or neither", a, b)
		}
		rises := order.Compare(order.Of(b), order.Of(a)) > 0
		met[fmt.Sprint("near ", forked(a, b), ", denser ", min(max(int(offered)-int(kept), -1), 1), ", greater ", rises)]++
	}
	for _, near := range []bool{false, true} {
		for denser := -1; denser <= 1; denser++ {
			for _, rises := range []bool{false, true} {
				if kind := fmt.Sprint("near ", near, ", denser ", denser, ", greater ", rises); met[kind] < 200 {
					t.Error(kind, met[kind])
				}
			}
		}
	}
}

// P13.3: of two states whose digests aren't the same just one wins, whatever one thing it
// is that tells them apart.
func TestJustOneWins(t *testing.T) {
	for name, other := range map[string]change{
		"Prev":          func(s *state.State) { s.Prev[31]++ },
		"Ledger":        ledger(1),
		"Draw":          drawn(api.Hash{31: 1}),
		"Slot":          func(s *state.State) { s.Slot++ },
		"Length":        long(10),
		"Count":         func(s *state.State) { s.Count = 1 },
		"Min":           dense(5),
		"counts":        full,
		"Now's Ledger":  func(s *state.State) { s.Epochs.Now.Ledger[1]++ },
		"Now's Seed":    func(s *state.State) { s.Epochs.Now.Seed[1]++ },
		"Now's Start":   func(s *state.State) { s.Epochs.Now.Start[1]++ },
		"Now's Lock":    func(s *state.State) { s.Epochs.Now.Lock[1]++ },
		"Now's Length":  func(s *state.State) { s.Epochs.Now.Length++ },
		"Next's Ledger": func(s *state.State) { s.Epochs.Next.Ledger[1]++ },
		"Next's Seed":   func(s *state.State) { s.Epochs.Next.Seed[1]++ },
		"Next's Start":  func(s *state.State) { s.Epochs.Next.Start[1]++ },
		"Next's Lock":   func(s *state.State) { s.Epochs.Next.Lock[1]++ },
		"Next's Length": func(s *state.State) { s.Epochs.Next.Length++ },
	} {
		for _, slot := range []uint32{25, 39, 40, 46} {
			for _, locked := range []byte{7, 8} { // near, or not
				a := at(slot, locks(7, 5), long(9))
				b := changed(at(slot, locks(locked, 5), long(9)), other)
				if a == b || Wins(a, b) == Wins(b, a) {
					t.Errorf("%s, slot %d, Lock %d: %v, turned %v", name, slot, locked, Wins(a, b), Wins(b, a))
				}
			}
		}
	}
}

// R4, R5: the same calls, with others between them, answer the same, and leave their
// arguments.
func TestAgain(t *testing.T) {
	chance := rand.New(rand.NewSource(132))
	var all []state.State
	for range 40 {
		all = append(all, thing(chance))
	}
	stood := append([]state.State(nil), all...)
	ask := func() string {
		var told bytes.Buffer
		for _, a := range all {
			for _, b := range all {
				one, other := Densities(a, b)
				fmt.Fprint(&told, Near(a, b), one, other, Wins(a, b))
			}
			s, many := Fold(a, all)
			fmt.Fprint(&told, s, many)
		}
		return told.String()
	}
	if ask() != ask() {
		t.Error("answers moved")
	}
	for n := range all {
		if all[n] != stood[n] {
			t.Error("a state moved", n)
		}
	}
}
