package choose

import (
	"bytes"
	"encoding/binary"
	"math/rand"
	"slices"
	"testing"

	"almagest/api"
	"almagest/order"
	"almagest/state"
	"almagest/window"
)

// held tells the last tip, and how often another one was it, by the chapter's words.
func held(tip state.State, l []state.State) (state.State, int) {
	if len(l) == 0 {
		return tip, 0
	}
	ahead, many := held(tip, l[:len(l)-1])
	if last := l[len(l)-1]; beats(ahead, last) {
		return last, many + 1
	}
	return ahead, many
}

// holdFold holds what is told of a tip and candidates, which must stay as they are, also
// behind their list's end.
func holdFold(t *testing.T, tip state.State, l []state.State, want state.State, times int) {
	t.Helper()
	stood := slices.Clone(l[:cap(l)])
	if s, many := Fold(tip, l); s != want || many != times {
		t.Errorf("slot %d, length %d, %d times; want slot %d, length %d, %d times", s.Slot, s.Length, many, want.Slot, want.Length, times)
	}
	if !slices.Equal(stood, l[:cap(l)]) {
		t.Error("the candidates moved")
	}
}

// some tells states that are near one another, each with a greater key than those ahead of
// it, by its Length, or by its Draw; their least densities fall.
func some() []state.State {
	return []state.State{
		at(40, locks(7, 5), long(3), dense(12)),
		at(47, locks(7, 5), long(4), dense(9)),
		at(41, locks(7, 5), long(4), dense(8), drawn(api.Hash{1})),
		at(49, locks(5, 3), long(4), dense(3), drawn(api.Hash{200})),
		at(46, locks(7, 5), long(8), dense(0)),
	}
}

// P13.2, R6: of no candidate: the tip, and no other one.
func TestFoldOfNone(t *testing.T) {
	for _, tip := range append(some(), state.Genesis(api.Hash{1}), at(greatest)) {
		holdFold(t, tip, nil, tip, 0)
		holdFold(t, tip, []state.State{}, tip, 0)
		holdFold(t, tip, some()[:0], tip, 0)
	}
}

// P13.2: of one candidate that wins, one that doesn't, and the tip itself.
func TestFoldOfOne(t *testing.T) {
	l := some()
	for i, one := range l {
		for j, other := range l {
			want, times := one, 0
			if j > i {
				want, times = other, 1
			}
			holdNear(t, one, other, true)
			holdFold(t, one, []state.State{other}, want, times)
		}
	}
}

// P13.2: of many, in several orders: step by step, each against the tip of just then.
func TestFoldWrittenOut(t *testing.T) {
	l := some()
	a, b, c, d := l[0], l[1], l[2], l[4] // all near one another, the least one first
	for i, k := range []struct {
		tip   state.State
		l     []state.State
		want  state.State
		times int
	}{
		{a, []state.State{b, c, d}, d, 3},
		{a, []state.State{b, d, c}, d, 2},
		{a, []state.State{c, b, d}, d, 2},
		{a, []state.State{c, d, b}, d, 2},
		{a, []state.State{d, b, c}, d, 1},
		{a, []state.State{d, c, b}, d, 1},
		{b, []state.State{a, c, d}, d, 2},
		{b, []state.State{a, a, a}, b, 0},
		{c, []state.State{a, b}, c, 0},
		{c, []state.State{b, a, d}, d, 1},
		{d, []state.State{a, b, c}, d, 0},
		{a, []state.State{a}, a, 0}, // the tip itself
		{a, []state.State{a, b, a, b}, b, 1},
		{a, []state.State{b, b}, b, 1}, // one that stands there twice
		{a, []state.State{b, b, c, b, c, c}, c, 2},
		{a, []state.State{d, d, d, d}, d, 1},
		{d, []state.State{d, a, d}, d, 0},
	} {
		holdFold(t, k.tip, k.l, k.want, k.times)
		if t.Failed() {
			t.Fatal("case", i)
		}
	}
}

// P13.2: near isn't handed on, so that three may each win against another one: the tip is
// told by the order in which they stand, and one may be it again and again.
func TestFoldOfThreeInARound(t *testing.T) {
	// The younger one is near the middle one alone; the elder one is denser as of its slot.
	elder := at(39, locks(7, 5), long(3), dense(12), full)
	middle := at(41, locks(7, 5), long(4), dense(12))
	younger := at(48, locks(5, 3), long(5), dense(1))
	holdNear(t, elder, middle, true)
	holdNear(t, middle, younger, true)
	holdNear(t, elder, younger, false)
	holdWins(t, middle, elder)
	holdWins(t, younger, middle)
	holdWins(t, elder, younger)
	for i, k := range []struct {
		tip   state.State
		l     []state.State
		want  state.State
		times int
	}{
		{elder, []state.State{middle, younger}, younger, 2},
		{elder, []state.State{younger, middle}, middle, 1},
		{middle, []state.State{elder, younger}, younger, 1},
		{middle, []state.State{younger, elder}, elder, 2},
		{younger, []state.State{elder, middle}, middle, 2},
		{younger, []state.State{middle, elder}, elder, 1},
		{elder, []state.State{middle, younger, elder}, elder, 3},
		{elder, []state.State{middle, younger, elder, middle, younger, elder, middle}, middle, 7},
		{elder, []state.State{younger, middle, elder, younger, younger, elder, elder}, elder, 3},
	} {
		holdFold(t, k.tip, k.l, k.want, k.times)
		if t.Failed() {
			t.Fatal("case", i)
		}
	}
}

// P13.2: of states that aren't near one another: by density as of the later one of the tip
// and the candidate, whatever came ahead.
func TestFoldOfFarOnes(t *testing.T) {
	sparse := at(30, dense(2), locks(1, 1), long(20))
	denser := at(100, dense(4), locks(2, 2), long(9))
	late := at(1000, dense(1), locks(3, 3), long(3)) // by then the windows of the others are empty
	same := at(1000, dense(1), locks(4, 4), long(4))
	holdFold(t, sparse, []state.State{denser, late, same}, same, 3)
	holdFold(t, sparse, []state.State{same, late, denser}, same, 1)
	holdFold(t, same, []state.State{denser, sparse, late}, same, 0)
	holdFold(t, denser, []state.State{sparse, sparse}, denser, 0)
	holdFold(t, denser, []state.State{late, sparse, same, denser, late}, same, 2)
}

// P13.2, R3: candidates behind a list's end are none; a list is left as it is, and what is
// told has nothing of it.
func TestFoldOfAPiece(t *testing.T) {
	l := some()
	want := l[2]
	holdFold(t, l[0], l[1:3], want, 2)
	holdFold(t, l[0], l[1:3:3], want, 2)
	holdFold(t, l[0], l[2:2], l[0], 0)
	told, _ := Fold(l[0], l[1:3])
	for n := range l {
		l[n] = state.State{}
	}
	if told != want {
		t.Error("it moved with the list")
	}
	l = some()
	told.Win.Ring.Counts[0], told.Epochs.Now.Lock[0] = 99, 99
	if !slices.Equal(l, some()) {
		t.Error("the list moved with it")
	}
}

// P13.2, W1: lists of chance: as one by one.
func TestFoldOfChance(t *testing.T) {
	chance := rand.New(rand.NewSource(133))
	counts := map[int]int{}
	for range 3000 {
		tip := thing(chance)
		l := make([]state.State, chance.Intn(12))
		for n := range l {
			l[n] = thing(chance)
			if n > 0 && chance.Intn(4) == 0 {
				l[n] = l[chance.Intn(n)]
			}
		}
		want, times := held(tip, l)
		holdFold(t, tip, l, want, times)
		counts[times]++
		// In two parts it is what it is at once.
		cut := chance.Intn(len(l) + 1)
		half, many := Fold(tip, l[:cut])
		if whole, more := Fold(half, l[cut:]); whole != want || many+more != times {
			t.Fatal("in parts", cut, len(l))
		}
		if t.Failed() {
			return
		}
	}
	for times := range 4 {
		if counts[times] < 100 {
			t.Error("too few are met", counts)
		}
	}
}

// P13.3, W2: all orders of near states, each of them the tip in turn, tell the one with the
// greatest key; how often another one was the tip is how often a greater key came than any
// ahead.
func TestFoldInAllOrders(t *testing.T) {
	l := []state.State{
		at(40, locks(7, 5), long(3), dense(12)),
		at(47, locks(7, 5), long(4), dense(9)),
		at(41, locks(7, 5), long(4), dense(8), drawn(api.Hash{127})),
		at(49, locks(5, 3), long(4), dense(3), drawn(api.Hash{200})),
		at(70, locks(5, 9), long(4), dense(3), drawn(api.Hash{200})),
		at(46, locks(7, 5), long(8), dense(0)),
	}
	for i, a := range l {
		for _, b := range l[:i] {
			holdNear(t, a, b, true)
		}
	}
	orders := 0
	var turn func(n int)
	turn = func(n int) {
		if n == len(l) {
			orders++
			times, most := 0, key(l[0])
			for _, s := range l[1:] {
				if k := key(s); bytes.Compare(k, most) > 0 {
					times, most = times+1, k
				}
			}
			holdFold(t, l[0], l[1:], at(46, locks(7, 5), long(8), dense(0)), times)
			return
		}
		for at := n; at < len(l) && !t.Failed(); at++ {
			l[n], l[at] = l[at], l[n]
			turn(n + 1)
			l[n], l[at] = l[at], l[n]
		}
	}
	turn(0)
	if orders != 720 {
		t.Error(orders)
	}
}

// P13.3, W2: states of chance that are all near one another, in one epoch, or in two, in
// whatever order they stand: the one with the greatest key, as order.Greatest tells it.
func TestFoldShuffled(t *testing.T) {
	chance := rand.New(rand.NewSource(134))
	for range 600 {
		l := make([]state.State, 2+chance.Intn(10))
		for n := range l {
			s := thing(chance)
			locks(7, 5)(&s)
			switch {
			case s.Slot >= 48:
				s = at(48+s.Slot%24, locks(5, byte(n)), long(s.Length), drawn(s.Draw), dense(s.Win.Min))
			case s.Slot < 40:
				s = at(40+s.Slot%8, locks(7, 5), long(s.Length), drawn(s.Draw), dense(s.Win.Min))
			}
			l[n] = s
		}
		var keys []order.Key
		for i, a := range l {
			keys = append(keys, order.Of(a))
			for _, b := range l[:i] {
				holdNear(t, a, b, true)
			}
		}
		want := l[order.Greatest(keys)]
		for range 6 {
			chance.Shuffle(len(l), func(i, j int) { l[i], l[j] = l[j], l[i] })
			if told, _ := Fold(l[0], l[1:]); told != want {
				t.Fatalf("slot %d, length %d; want slot %d, length %d", told.Slot, told.Length, want.Slot, want.Length)
			}
		}
		if t.Failed() {
			return
		}
	}
}

// P13.2, R1: a long list, whose keys rise, fall, and stay the same.
func TestFoldOfALongList(t *testing.T) {
	const many = 5000
	l := make([]state.State, many)
	for n := range l {
		l[n] = at(24000, long(uint32(n+2)))
	}
	tip := at(24000)
	holdFold(t, tip, l, l[many-1], many)
	slices.Reverse(l)
	holdFold(t, tip, l, l[0], 1)
	for n := range l {
		l[n] = l[0]
	}
	holdFold(t, tip, l, l[0], 1)
}

// P13.2, R1: states that aren't right: it ends, and each step is one of Wins.
func TestFoldWhateverIsGiven(t *testing.T) {
	chance := rand.New(rand.NewSource(135))
	for range 200 {
		l := []state.State{{}, at(greatest), {Slot: greatest, Win: window.Win{Min: greatest}}}
		for range 8 {
			b := make([]byte, 396)
			chance.Read(b)
			var s state.State
			if err := binary.Read(bytes.NewReader(b), binary.BigEndian, &s); err != nil {
				t.Fatal(err)
			}
			l = append(l, s)
		}
		chance.Shuffle(len(l), func(i, j int) { l[i], l[j] = l[j], l[i] })
		want, times := l[0], 0
		for _, s := range l[1:] {
			holdNear(t, want, s, forked(want, s))
			if Wins(want, s) {
				want, times = s, times+1
			}
		}
		holdFold(t, l[0], l[1:], want, times)
	}
}
