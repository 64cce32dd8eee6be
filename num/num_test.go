package num

import (
	"math"
	"math/big"
	"testing"
)

// words32 tells edges of 32 bits, their neighbours, and ordinary numbers.
func words32() []uint32 {
	return []uint32{
		0, 1, 2, 3, 5, 7, 31, 32, 33, 1000, 65535, 65536, 65537, 0x12345678, 0x9abcdef0,
		1<<31 - 2, 1<<31 - 1, 1 << 31, 1<<31 + 1, 1<<32 - 2, 1<<32 - 1,
	}
}

func words64() []uint64 {
	out := []uint64{
		1 << 32, 1<<32 + 1, 1 << 33, 0x123456789abcdef0,
		1<<63 - 1, 1 << 63, 1<<63 + 1, 1<<64 - 1<<32, 1<<64 - 2, 1<<64 - 1,
	}
	for _, n := range words32() {
		out = append(out, uint64(n))
	}
	return out
}

func turns() []int {
	out := []int{
		math.MinInt, math.MinInt + 1, math.MinInt32, math.MinInt32 - 1, math.MaxInt32,
		math.MaxInt32 + 1, math.MaxInt - 1, math.MaxInt, 1 << 40, -1 << 40, 1<<40 + 5, -1<<40 - 5,
	}
	for by := -100; by <= 100; by++ {
		out = append(out, by)
	}
	return out
}

func bigOf(n uint64) *big.Int { return new(big.Int).SetUint64(n) }

// fitting tells what a way that may fail should answer, from a result that can't go round.
func fitting(exact *big.Int, bits int) (uint64, bool) {
	if exact.Sign() < 0 || exact.BitLen() > bits {
		return 0, false
	}
	return exact.Uint64(), true
}

func holdWay32(t *testing.T, name string, way func(a, b uint32) (uint32, bool), exact func(x, y *big.Int) *big.Int) {
	t.Helper()
	for _, a := range words32() {
		for _, b := range words32() {
			n, is := way(a, b)
			want, fits := fitting(exact(bigOf(uint64(a)), bigOf(uint64(b))), 32)
			if uint64(n) != want || is != fits {
				t.Errorf("%s(%d, %d): %d, %t; want %d, %t", name, a, b, n, is, want, fits)
			}
		}
	}
}

// P1.1: sums, differences and products of 32 bits, against exact ones.
func TestWaysOf32AgainstExact(t *testing.T) {
	holdWay32(t, "Add32", Add32, func(x, y *big.Int) *big.Int { return new(big.Int).Add(x, y) })
	holdWay32(t, "Sub32", Sub32, func(x, y *big.Int) *big.Int { return new(big.Int).Sub(x, y) })
	holdWay32(t, "Mul32", Mul32, func(x, y *big.Int) *big.Int { return new(big.Int).Mul(x, y) })
}

// P1.1: sums of 64 bits, against exact ones.
func TestAdd64AgainstExact(t *testing.T) {
	for _, a := range words64() {
		for _, b := range words64() {
			n, is := Add64(a, b)
			want, fits := fitting(new(big.Int).Add(bigOf(a), bigOf(b)), 64)
			if n != want || is != fits {
				t.Errorf("Add64(%d, %d): %d, %t; want %d, %t", a, b, n, is, want, fits)
			}
		}
	}
}

// P1.1: what is one of 32 bits is narrowed, what isn't is 0 and false.
func TestNarrowAgainstExact(t *testing.T) {
	for _, n := range words64() {
		m, is := Narrow(n)
		want, fits := fitting(bigOf(n), 32)
		if uint64(m) != want || is != fits {
			t.Errorf("Narrow(%d): %d, %t; want %d, %t", n, m, is, want, fits)
		}
	}
}

// P1.1: answers written out by hand, so that a fault of the exact ones is seen, too.
func TestWaysOf32ByHand(t *testing.T) {
	for _, c := range []struct {
		name       string
		way        func(a, b uint32) (uint32, bool)
		a, b, want uint32
		fits       bool
	}{
		{"Add32", Add32, 0, 0, 0, true},
		{"Add32", Add32, 5, 3, 8, true},
		{"Add32", Add32, 1<<31 - 1, 1, 1 << 31, true},
		{"Add32", Add32, 1<<31 - 1, 1 << 31, 1<<32 - 1, true},
		{"Add32", Add32, 1 << 31, 1 << 31, 0, false},
		{"Add32", Add32, 1<<32 - 1, 1, 0, false},
		{"Add32", Add32, 1, 1<<32 - 1, 0, false},
		{"Add32", Add32, 1<<32 - 1, 1<<32 - 1, 0, false},
		{"Sub32", Sub32, 5, 3, 2, true},
		{"Sub32", Sub32, 3, 5, 0, false},
		{"Sub32", Sub32, 0, 1, 0, false},
		{"Sub32", Sub32, 0, 1<<32 - 1, 0, false},
		{"Sub32", Sub32, 1<<32 - 1, 1<<32 - 1, 0, true},
		{"Mul32", Mul32, 5, 3, 15, true},
		{"Mul32", Mul32, 0, 1<<32 - 1, 0, true},
		{"Mul32", Mul32, 1, 1<<32 - 1, 1<<32 - 1, true},
		{"Mul32", Mul32, 65535, 65537, 1<<32 - 1, true},
		{"Mul32", Mul32, 65536, 65536, 0, false},
		{"Mul32", Mul32, 65537, 65537, 0, false},
		{"Mul32", Mul32, 2, 1 << 31, 0, false},
		{"Mul32", Mul32, 2, 1<<31 - 1, 1<<32 - 2, true},
		{"Mul32", Mul32, 1<<32 - 1, 1<<32 - 1, 0, false},
	} {
		if n, is := c.way(c.a, c.b); n != c.want || is != c.fits {
			t.Errorf("%s(%d, %d): %d, %t; want %d, %t", c.name, c.a, c.b, n, is, c.want, c.fits)
		}
	}
}

// P1.1: likewise of 64 bits.
func TestWaysOf64ByHand(t *testing.T) {
	for _, c := range []struct {
		a, b, want uint64
		fits       bool
	}{
		{0, 0, 0, true},
		{7, 8, 15, true},
		{1<<32 - 1, 1, 1 << 32, true},
		{1<<63 - 1, 1 << 63, 1<<64 - 1, true},
		{1 << 63, 1 << 63, 0, false},
		{1<<64 - 1, 0, 1<<64 - 1, true},
		{1<<64 - 1, 1, 0, false},
		{1, 1<<64 - 1, 0, false},
		{1<<64 - 1, 1<<64 - 1, 0, false},
	} {
		if n, is := Add64(c.a, c.b); n != c.want || is != c.fits {
			t.Errorf("Add64(%d, %d): %d, %t; want %d, %t", c.a, c.b, n, is, c.want, c.fits)
		}
	}
	for _, c := range []struct {
		n    uint64
		want uint32
		fits bool
	}{
		{0, 0, true},
		{1, 1, true},
		{1 << 31, 1 << 31, true},
		{1<<32 - 1, 1<<32 - 1, true},
		{1 << 32, 0, false},
		{1<<32 + 1, 0, false},
		{1 << 63, 0, false},
		{1<<64 - 1, 0, false},
	} {
		if n, is := Narrow(c.n); n != c.want || is != c.fits {
			t.Errorf("Narrow(%d): %d, %t; want %d, %t", c.n, n, is, c.want, c.fits)
		}
	}
}

// P1.2: high times 2^32, and low; and the two whose Join is n.
func TestJoinAndSplit(t *testing.T) {
	for _, high := range words32() {
		for _, low := range words32() {
			exact := new(big.Int).Mul(bigOf(uint64(high)), bigOf(1<<32))
			exact.Add(exact, bigOf(uint64(low)))
			n := Join(high, low)
			if bigOf(n).Cmp(exact) != 0 {
				t.Errorf("Join(%d, %d): %d; want %s", high, low, n, exact)
			}
			if h, l := Split(exact.Uint64()); h != high || l != low {
				t.Errorf("Split(%s): %d, %d; want %d, %d", exact, h, l, high, low)
			}
		}
	}
}

// turnedBitByBit tells a turn by where each of the 32 bits goes.
func turnedBitByBit(n uint32, by int) uint32 {
	right := by % 32
	if right < 0 {
		right += 32
	}
	var out uint32
	for place := range 32 {
		if n&(1<<place) != 0 {
			out |= 1 << ((place - right + 32) % 32)
		}
	}
	return out
}

// P1.2: turns by all places, to both sides, and by the least and the greatest int.
func TestTurnAgainstBits(t *testing.T) {
	for _, n := range words32() {
		for _, by := range turns() {
			if m, want := Turn(n, by), turnedBitByBit(n, by); m != want {
				t.Errorf("Turn(%#x, %d): %#x; want %#x", n, by, m, want)
			}
		}
	}
}

// P1.2: turns written out by hand.
func TestTurnByHand(t *testing.T) {
	for _, c := range []struct {
		n    uint32
		by   int
		want uint32
	}{
		{1, 0, 1},
		{1, 1, 2147483648},
		{1, 31, 2},
		{1, 32, 1},
		{1, 33, 1 << 31},
		{1, -1, 2},
		{1, -31, 1 << 31},
		{1, -32, 1},
		{1, -33, 2},
		{0x12345678, 8, 0x78123456},
		{0x12345678, -8, 0x34567812},
		{0x12345678, 40, 0x78123456},
		{0x12345678, math.MinInt, 0x12345678},
		{0x12345678, math.MinInt + 8, 0x78123456},
		{1, math.MaxInt, 2},
		{0x12345678, math.MaxInt - 3, 0x23456781},
		{0, 5, 0},
		{1<<32 - 1, 5, 1<<32 - 1},
	} {
		if m := Turn(c.n, c.by); m != c.want {
			t.Errorf("Turn(%#x, %d): %#x; want %#x", c.n, c.by, m, c.want)
		}
	}
}

// P1.2: below 2^31 a number is its own sign; from there on it is less 2^32.
func TestSignedAndUnsigned(t *testing.T) {
	for _, n := range words32() {
		want := int64(n)
		if want >= 1<<31 {
			want -= 1 << 32
		}
		if s := Signed(n); int64(s) != want {
			t.Errorf("Signed(%d): %d; want %d", n, s, want)
		}
		if u := Unsigned(int32(want)); u != n {
			t.Errorf("Unsigned(%d): %d; want %d", want, u, n)
		}
	}
	for _, c := range []struct {
		n uint32
		s int32
	}{{0, 0}, {1, 1}, {1<<31 - 1, math.MaxInt32}, {1 << 31, math.MinInt32}, {1<<31 + 1, math.MinInt32 + 1}, {1<<32 - 1, -1}} {
		if s, u := Signed(c.n), Unsigned(c.s); s != c.s || u != c.n {
			t.Errorf("Signed(%d): %d; Unsigned(%d): %d", c.n, s, c.s, u)
		}
	}
}

// P1.3: what is added, and fits, is taken away again; and a difference that fits is added again.
func TestWhatIsAddedIsTakenAway(t *testing.T) {
	fitted := 0
	for _, a := range words32() {
		for _, b := range words32() {
			if sum, is := Add32(a, b); is {
				fitted++
				if back, is := Sub32(sum, b); back != a || !is {
					t.Errorf("Sub32(%d, %d): %d, %t; want %d", sum, b, back, is, a)
				}
				if back, is := Sub32(sum, a); back != b || !is {
					t.Errorf("Sub32(%d, %d): %d, %t; want %d", sum, a, back, is, b)
				}
			}
			if less, is := Sub32(a, b); is {
				fitted++
				if back, is := Add32(less, b); back != a || !is {
					t.Errorf("Add32(%d, %d): %d, %t; want %d", less, b, back, is, a)
				}
			}
		}
	}
	if fitted < 2*len(words32()) {
		t.Errorf("only %d sums and differences fit", fitted)
	}
}

// P1.3: what is split is joined, and what is joined is split.
func TestWhatIsSplitIsJoined(t *testing.T) {
	for _, n := range words64() {
		if back := Join(Split(n)); back != n {
			t.Errorf("Join(Split(%d)): %d", n, back)
		}
	}
	for _, high := range words32() {
		for _, low := range words32() {
			if h, l := Split(Join(high, low)); h != high || l != low {
				t.Errorf("Split(Join(%d, %d)): %d, %d", high, low, h, l)
			}
		}
	}
}

// P1.3: what is turned is turned back. The least int has no number that undoes
// it by its sign, but it is a whole number of times 32, as its own wrap-round is.
func TestWhatIsTurnedIsTurnedBack(t *testing.T) {
	for _, n := range words32() {
		for _, by := range turns() {
			if back := Turn(Turn(n, by), -by); back != n {
				t.Errorf("Turn(Turn(%#x, %d), %d): %#x", n, by, -by, back)
			}
		}
	}
}

// P1.3: what is signed is unsigned again, and the other way round.
func TestWhatIsSignedIsUnsigned(t *testing.T) {
	for _, n := range words32() {
		if back := Unsigned(Signed(n)); back != n {
			t.Errorf("Unsigned(Signed(%d)): %d", n, back)
		}
	}
	for _, n := range []int32{math.MinInt32, math.MinInt32 + 1, -1000, -1, 0, 1, 1000, math.MaxInt32 - 1, math.MaxInt32} {
		if back := Signed(Unsigned(n)); back != n {
			t.Errorf("Signed(Unsigned(%d)): %d", n, back)
		}
	}
}
