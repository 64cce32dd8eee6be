package order

import (
	"math/rand"
	"slices"
	"testing"

	"almagest/api"
)

// place tells the first place whose key none is greater than, by holding each against all.
func place(l []Key) int {
	for at, key := range l {
		if !slices.ContainsFunc(l, func(other Key) bool { return told(number(other), number(key)) > 0 }) {
			return at
		}
	}
	return -1
}

// holdGreatest holds the place that is told of a list, which must stay as it is, also
// behind its end.
func holdGreatest(t *testing.T, l []Key, want int) {
	t.Helper()
	stood := slices.Clone(l[:cap(l)])
	if told := Greatest(l); told != want {
		t.Errorf("%x: %d; want %d", l, told, want)
	}
	if !slices.Equal(stood, l[:cap(l)]) {
		t.Errorf("%x: was %x", l, stood)
	}
}

// of tells a key of small numbers.
func of(length uint32, draw, hash byte) Key {
	return Key{Length: length, Draw: api.Hash{9: draw}, Hash: api.Hash{9: hash}}
}

// P12.1, R6: of no key there is no place.
func TestGreatestOfNone(t *testing.T) {
	holdGreatest(t, nil, -1)
	holdGreatest(t, []Key{}, -1)
	holdGreatest(t, []Key{of(5, 5, 5)}[:0], -1)
}

// P12.1: the greatest first, in the middle and last, twice, and all the same.
func TestGreatestWrittenOut(t *testing.T) {
	zero, full := Key{}, Key{Length: greatest, Draw: running(224), Hash: running(224)}
	a, b, c := of(5, 1, 1), of(5, 1, 2), of(5, 2, 0)
	for i, k := range []struct {
		l    []Key
		want int
	}{
		{[]Key{zero}, 0},
		{[]Key{full}, 0},
		{[]Key{a}, 0},
		{[]Key{a, b}, 1},
		{[]Key{b, a}, 0},
		{[]Key{a, a}, 0},
		{[]Key{zero, zero}, 0},
		{[]Key{zero, full}, 1},
		{[]Key{full, zero}, 0},
		{[]Key{zero, zero, zero, zero}, 0},
		{[]Key{full, full, full}, 0},
		{[]Key{a, b, c}, 2},
		{[]Key{a, c, b}, 1},
		{[]Key{c, b, a}, 0},
		{[]Key{b, c, a, c}, 1},
		{[]Key{c, a, c, b, c}, 0},
		{[]Key{a, b, c, c}, 2},
		{[]Key{b, b, a}, 0},
		{[]Key{a, b, b}, 1},
		{[]Key{of(4, 9, 9), of(5, 0, 0), of(5, 0, 0), of(3, 9, 9)}, 1},
		{[]Key{of(1, 9, 0), of(2, 8, 0), of(3, 7, 0), of(4, 6, 0)}, 3},
		{[]Key{of(1, 9, 9), of(1, 9, 8), of(1, 8, 10), of(0, 10, 10)}, 0},
		{[]Key{of(1<<31-1, 0, 0), of(1<<31, 0, 0), of(1, 9, 9)}, 1},
		{[]Key{of(greatest-1, 9, 9), of(0, 9, 9), of(greatest, 0, 0), of(1, 9, 9)}, 2},
		{[]Key{of(3, 127, 0), of(3, 128, 0), of(3, 1, 9)}, 1},
		{[]Key{of(3, 3, 127), of(3, 3, 255), of(3, 3, 128), of(3, 3, 255)}, 1},
	} {
		if told := Greatest(k.l); told != k.want {
			t.Errorf("case %d: %d; want %d", i, told, k.want)
		}
		holdGreatest(t, k.l, k.want)
	}
}

// P12.1: all lists of up to six of four keys.
func TestGreatestOfAllLists(t *testing.T) {
	keys := []Key{of(4, 9, 9), of(5, 1, 200), of(5, 2, 0), of(5, 2, 1)}
	lists := [][]Key{nil}
	for len(lists[0]) < 6 {
		var longer [][]Key
		for _, l := range lists {
			for _, key := range keys {
				longer = append(longer, append(slices.Clone(l), key))
			}
		}
		for _, l := range longer {
			holdGreatest(t, l, place(l))
		}
		lists = longer
	}
}

// P12.1: the greatest at each place of lists of many keys, alone and twice.
func TestGreatestAtEachPlace(t *testing.T) {
	for _, n := range []int{1, 2, 3, 12, 50} {
		for first := range n {
			for second := first; second < n; second++ {
				l := make([]Key, n)
				for at := range l {
					l[at] = of(6, byte(7*at%11), byte(at))
				}
				l[first], l[second] = of(6, 11, 3), of(6, 11, 3)
				holdGreatest(t, l, first)
			}
		}
	}
}

// P12.1: keys behind a list's end are none of it.
func TestGreatestOfAPiece(t *testing.T) {
	l := []Key{of(9, 9, 9), of(1, 1, 1), of(3, 1, 1), of(2, 1, 1), of(8, 9, 9)}
	holdGreatest(t, l[1:4], 1)
	holdGreatest(t, l[1:2], 0)
	holdGreatest(t, l[3:3], -1)
	holdGreatest(t, l[:3:3], 0)
}

// P12.2: the greatest key is the same, and stands first of its likes, in whatever order the
// list stands: all orders of six keys, two of which are the same.
func TestGreatestInAllOrders(t *testing.T) {
	keys := []Key{of(0, 0, 0), of(4, 200, 9), of(5, 1, 255), of(5, 2, 1), of(5, 2, 130), of(5, 2, 130)}
	orders := 0
	var turn func(n int)
	turn = func(n int) {
		if n == len(keys) {
			orders++
			told := Greatest(keys)
			if told < 0 || keys[told] != of(5, 2, 130) || told != slices.Index(keys, of(5, 2, 130)) {
				t.Fatalf("%x: %d", keys, told)
			}
			return
		}
		for at := n; at < len(keys); at++ {
			keys[n], keys[at] = keys[at], keys[n]
			turn(n + 1)
			keys[n], keys[at] = keys[at], keys[n]
		}
	}
	turn(0)
	if orders != 720 {
		t.Error(orders)
	}
}

// P12.2: likewise of lists of chance, shuffled.
func TestGreatestShuffled(t *testing.T) {
	chance := rand.New(rand.NewSource(14))
	for range 2000 {
		l := make([]Key, 1+chance.Intn(20))
		for at := range l {
			l[at] = thing(chance)
		}
		want := place(l)
		holdGreatest(t, l, want)
		most := l[want]
		for range 5 {
			chance.Shuffle(len(l), func(i, j int) { l[i], l[j] = l[j], l[i] })
			if told := Greatest(l); told < 0 || l[told] != most {
				t.Fatalf("%x: %d; want %x", l, told, most)
			}
		}
	}
}

// P12.1, R1: long lists, that rise, fall, and stay the same.
func TestGreatestOfLongLists(t *testing.T) {
	const many = 1 << 20
	l := make([]Key, many)
	for at := range l {
		l[at].Length = uint32(at)
	}
	if told := Greatest(l); told != many-1 {
		t.Error("rising", told)
	}
	slices.Reverse(l)
	if told := Greatest(l); told != 0 {
		t.Error("falling", told)
	}
	clear(l)
	if told := Greatest(l); told != 0 {
		t.Error("the same", told)
	}
	l[many-2].Hash[31] = 1
	if told := Greatest(l); told != many-2 {
		t.Error("one alone", told)
	}
}
