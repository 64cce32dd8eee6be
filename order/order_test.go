package order

import (
	"bytes"
	"cmp"
	"encoding/binary"
	"encoding/hex"
	"math"
	"math/big"
	"math/rand"
	"slices"
	"testing"

	"almagest/api"
	"almagest/epoch"
	"almagest/grow"
	"almagest/state"
	"almagest/window"
)

const greatest = math.MaxUint32

// running tells the digest whose bytes are a number, and on from it.
func running(n byte) api.Hash {
	var h api.Hash
	for i := range h {
		h[i] = n + byte(i)
	}
	return h
}

// written tells the digest of hexadecimal digits.
func written(digits string) api.Hash {
	b, err := hex.DecodeString(digits)
	if err != nil || len(b) != 32 {
		panic(digits)
	}
	return api.Hash(b)
}

// told tells which of two rows of bytes is greater, by the numbers that they are with the
// first byte as the greatest part.
func told(a, b []byte) int { return new(big.Int).SetBytes(a).Cmp(new(big.Int).SetBytes(b)) }

// number tells a key's bytes, which as one number are ordered as keys are.
func number(k Key) []byte {
	b := binary.BigEndian.AppendUint32(nil, k.Length)
	b = append(b, k.Draw[:]...)
	return append(b, k.Hash[:]...)
}

// holdHashes holds what is told of two digests, both ways round.
func holdHashes(t *testing.T, a, b api.Hash, want int) {
	t.Helper()
	if told := Hashes(a, b); told != want {
		t.Errorf("%x, %x: %d; want %d", a, b, told, want)
	}
	if told := Hashes(b, a); told != -want {
		t.Errorf("%x, %x, turned: %d; want %d", a, b, told, -want)
	}
}

// hold holds what is told of two keys, both ways round.
func hold(t *testing.T, a, b Key, want int) {
	t.Helper()
	if told := Compare(a, b); told != want {
		t.Errorf("%x, %x: %d; want %d", a, b, told, want)
	}
	if told := Compare(b, a); told != -want {
		t.Errorf("%x, %x, turned: %d; want %d", a, b, told, -want)
	}
}

// laid tells the state whose fields have these bytes, one behind the other.
func laid(t *testing.T, b []byte) state.State {
	t.Helper()
	var s state.State
	if err := binary.Read(bytes.NewReader(b), binary.BigEndian, &s); err != nil {
		t.Fatal(err)
	}
	return s
}

// row tells the bytes of a state all fields of which are unlike, and which isn't right.
func row() []byte {
	b := make([]byte, 396)
	for i := range b {
		b[i] = byte(i % 251)
	}
	return b
}

// P12.1: the key of first states, of later ones, and of ones that aren't right; another
// program made the digests.
func TestOfWrittenOut(t *testing.T) {
	chain := []state.State{state.Genesis(running(7))}
	for n, slot := range []uint32{3, 30, 50} {
		b := grow.Block{Slot: slot, Ledger: running(byte(11*n + 20)), Draw: running(byte(13*n + 60))}
		c, failed := grow.Child(chain[n], b)
		if failed != api.OK {
			t.Fatal(slot, failed)
		}
		chain = append(chain, c)
	}
	for i, c := range []struct {
		s    state.State
		want Key
	}{
		{chain[0], Key{Length: 1, Hash: written("ed22f684a48cf8063075fabfd5d9ba06285a739f65b77133d5cb042082abcda1")}},
		{chain[1], Key{Length: 2, Draw: running(60), Hash: written("85e57e90a5bccb3aa6a2c6f2e861fc91156704b6065c8e2d8ce80bcc776e7301")}},
		{chain[2], Key{Length: 3, Draw: running(73), Hash: written("710cf98c8f816fc993be9a23b5bec064fcc9bf089c60c4f866452696145d315e")}},
		{state.State{}, Key{Hash: written("04c62176e9f305cbdda2cc0a785ef2b41a9e0a324e3dda7339bb09ac9c3226e9")}},
		{laid(t, row()), Key{
			Length: 100<<24 | 101<<16 | 102<<8 | 103, Draw: running(64),
			Hash: written("8a2623875279cd71108f3e8049b7ed88a570561802bdbf1557e49ba01c47ecb4"),
		}},
		{laid(t, bytes.Repeat([]byte{255}, 396)), Key{
			Length: greatest, Draw: api.Hash(bytes.Repeat([]byte{255}, 32)),
			Hash: written("a682e0fc0647113db918cfdfd6385e73a898f0308cd723f3e750e84ccbe99f66"),
		}},
	} {
		if k := Of(c.s); k != c.want {
			t.Errorf("case %d: %x; want %x", i, k, c.want)
		}
	}
}

// P12.1: each part of a key by itself: it is its state's, and moves only with it. The digest
// moves with all that a state has.
func TestOfEachField(t *testing.T) {
	s := state.Genesis(running(7))
	s.Draw = running(9)
	before := Of(s)
	for name, c := range map[string]struct {
		change func(*state.State)
		want   Key // without its Hash
	}{
		"nothing":       {func(*state.State) {}, Key{Length: 1, Draw: running(9)}},
		"Length":        {func(s *state.State) { s.Length = greatest }, Key{Length: greatest, Draw: running(9)}},
		"Length 0":      {func(s *state.State) { s.Length = 0 }, Key{Draw: running(9)}},
		"Draw":          {func(s *state.State) { s.Draw = running(10) }, Key{Length: 1, Draw: running(10)}},
		"no Draw":       {func(s *state.State) { s.Draw = api.Hash{} }, Key{Length: 1}},
		"Prev":          {func(s *state.State) { s.Prev = running(11) }, Key{Length: 1, Draw: running(9)}},
		"Ledger":        {func(s *state.State) { s.Ledger = running(12) }, Key{Length: 1, Draw: running(9)}},
		"Slot":          {func(s *state.State) { s.Slot = 77 }, Key{Length: 1, Draw: running(9)}},
		"Count":         {func(s *state.State) { s.Count = 77 }, Key{Length: 1, Draw: running(9)}},
		"Win":           {func(s *state.State) { s.Win = window.Win{Min: 1} }, Key{Length: 1, Draw: running(9)}},
		"Epochs":        {func(s *state.State) { s.Epochs = epoch.First(running(13)) }, Key{Length: 1, Draw: running(9)}},
		"Now's Length":  {func(s *state.State) { s.Epochs.Now.Length = 77 }, Key{Length: 1, Draw: running(9)}},
		"Next's Length": {func(s *state.State) { s.Epochs.Next.Length = 77 }, Key{Length: 1, Draw: running(9)}},
	} {
		turned := s
		c.change(&turned)
		c.want.Hash = state.Hash(turned)
		if k := Of(turned); k != c.want {
			t.Errorf("%s: %x; want %x", name, k, c.want)
		}
		if (Of(turned).Hash == before.Hash) != (turned == s) {
			t.Errorf("%s: the digest's: %x", name, Of(turned).Hash)
		}
	}
}

// P12.1: each bit of a state turned: the key has the Length, the Draw and the digest of the
// turned one.
func TestOfEachBit(t *testing.T) {
	for at := range 396 {
		for bit := range 8 {
			b := row()
			b[at] ^= 1 << bit
			s := laid(t, b)
			k := Of(s)
			if k.Length != binary.BigEndian.Uint32(b[100:]) || k.Draw != api.Hash(b[64:96]) {
				t.Fatalf("byte %d: %x", at, k)
			}
			if k.Hash != state.Hash(s) || k.Hash == Of(laid(t, row())).Hash {
				t.Fatalf("byte %d: the digest's: %x", at, k.Hash)
			}
		}
	}
}

// P12.1: digests that are the same, and ones whose first other byte is the first one, one
// in the middle or the last one.
func TestHashesWrittenOut(t *testing.T) {
	full := api.Hash(bytes.Repeat([]byte{255}, 32))
	for _, same := range []api.Hash{{}, full, running(0), running(200), {1}, {31: 1}} {
		holdHashes(t, same, same, 0)
	}
	for _, c := range []struct {
		a, b api.Hash
		want int
	}{
		{api.Hash{}, full, -1},
		{api.Hash{1}, api.Hash{}, 1},
		{api.Hash{31: 1}, api.Hash{}, 1},
		{api.Hash{16: 1}, api.Hash{}, 1},
		{api.Hash{1}, api.Hash{0, 255}, 1},
		{api.Hash{16: 1}, api.Hash{17: 255, 31: 255}, 1},
		{api.Hash{30: 1}, api.Hash{31: 255}, 1},
		{api.Hash{128}, api.Hash{127}, 1},
		{api.Hash{31: 128}, api.Hash{31: 127}, 1},
		{api.Hash{255}, api.Hash{1}, 1},
		{api.Hash{200, 1}, api.Hash{100, 2}, 1},
		{api.Hash{2, 127, 255}, api.Hash{2, 128}, -1},
		{api.Hash{15: 7, 16: 254, 17: 255}, api.Hash{15: 7, 16: 255}, -1},
		{running(3), running(4), -1},
		{running(255), running(0), 1},
	} {
		holdHashes(t, c.a, c.b, c.want)
	}
}

// P12.1: each byte beside each other one, at places of which some are asked of all bytes,
// and with bytes behind it that would tell the other way round.
func TestHashesEachByte(t *testing.T) {
	for place := range 32 {
		for a := range 256 {
			for b := range 256 {
				if place%8 != 7 && place > 1 && (a%15 > 1 || b%17 > 1) {
					continue
				}
				x, y := running(90), running(90)
				x[place], y[place] = byte(a), byte(b)
				want := cmp.Compare(a, b)
				holdHashes(t, x, y, want)
				if want == 0 {
					continue
				}
				for behind := place + 1; behind < 32; behind += 30 - place/2 {
					x[behind], y[behind] = byte(127-want), byte(127+want)
					holdHashes(t, x, y, want)
				}
			}
			if t.Failed() {
				return
			}
		}
	}
}

// P12.1: digests of chance are ordered as the numbers that they are.
func TestHashesAsNumbers(t *testing.T) {
	chance := rand.New(rand.NewSource(12))
	counts := map[int]int{}
	for range 20000 {
		var a, b api.Hash
		chance.Read(a[:])
		b = a
		for at := chance.Intn(33); at < 32; at++ {
			b[at] = byte(chance.Intn(256))
		}
		want := told(a[:], b[:])
		holdHashes(t, a, b, want)
		counts[want]++
	}
	if counts[-1] < 5000 || counts[0] < 100 || counts[1] < 5000 {
		t.Error(counts)
	}
}

// P12.1: the chapter's example: a length tells, whatever the draws are.
func TestExample(t *testing.T) {
	hold(t, Key{Length: 5, Draw: api.Hash{9}}, Key{Length: 6, Draw: api.Hash{1}}, -1)
}

// P12.1: keys that differ in one thing alone, and ones in which a later thing would tell
// the other way round.
func TestCompareWrittenOut(t *testing.T) {
	full := api.Hash(bytes.Repeat([]byte{255}, 32))
	for _, c := range []struct {
		a, b Key
		want int
	}{
		// The same.
		{Key{}, Key{}, 0},
		{Key{greatest, full, full}, Key{greatest, full, full}, 0},
		{Key{5, running(1), running(2)}, Key{5, running(1), running(2)}, 0},
		// One thing alone.
		{Key{5, running(1), running(2)}, Key{6, running(1), running(2)}, -1},
		{Key{0, running(1), running(2)}, Key{1, running(1), running(2)}, -1},
		{Key{0, running(1), running(2)}, Key{greatest, running(1), running(2)}, -1},
		{Key{greatest - 1, running(1), running(2)}, Key{greatest, running(1), running(2)}, -1},
		{Key{1<<31 - 1, running(1), running(2)}, Key{1 << 31, running(1), running(2)}, -1},
		{Key{1, running(1), running(2)}, Key{1 << 31, running(1), running(2)}, -1},
		{Key{1, running(1), running(2)}, Key{1<<31 + 2, running(1), running(2)}, -1},
		{Key{255, running(1), running(2)}, Key{256, running(1), running(2)}, -1},
		{Key{1<<16 - 1, running(1), running(2)}, Key{1 << 16, running(1), running(2)}, -1},
		{Key{5, running(1), running(2)}, Key{5, running(2), running(2)}, -1},
		{Key{5, api.Hash{31: 1}, running(2)}, Key{5, api.Hash{31: 2}, running(2)}, -1},
		{Key{5, api.Hash{127}, running(2)}, Key{5, api.Hash{128}, running(2)}, -1},
		{Key{0, api.Hash{}, running(2)}, Key{0, full, running(2)}, -1},
		{Key{5, running(1), running(2)}, Key{5, running(1), running(3)}, -1},
		{Key{5, running(1), api.Hash{31: 1}}, Key{5, running(1), api.Hash{31: 2}}, -1},
		{Key{5, running(1), api.Hash{127}}, Key{5, running(1), api.Hash{128}}, -1},
		{Key{greatest, running(1), api.Hash{}}, Key{greatest, running(1), full}, -1},
		// A later thing would tell the other way round.
		{Key{5, full, full}, Key{6, api.Hash{}, api.Hash{}}, -1},
		{Key{5, running(2), running(1)}, Key{6, running(1), running(1)}, -1},
		{Key{5, running(1), running(2)}, Key{6, running(1), running(1)}, -1},
		{Key{0, full, full}, Key{greatest, api.Hash{}, api.Hash{}}, -1},
		{Key{1<<31 - 1, full, full}, Key{1 << 31, api.Hash{}, api.Hash{}}, -1},
		{Key{5, running(1), full}, Key{5, running(2), api.Hash{}}, -1},
		{Key{0, api.Hash{}, full}, Key{0, api.Hash{31: 1}, api.Hash{}}, -1},
		{Key{greatest, api.Hash{31: 254}, running(9)}, Key{greatest, api.Hash{31: 255}, running(8)}, -1},
		// A later thing would tell the same.
		{Key{5, running(1), running(1)}, Key{6, running(2), running(2)}, -1},
		{Key{5, running(1), running(1)}, Key{5, running(2), running(2)}, -1},
	} {
		hold(t, c.a, c.b, c.want)
	}
}

// some tells keys of all kinds, each one once, of which each is less than the ones behind it.
func some() []Key {
	digests := []api.Hash{{}, {31: 1}, {31: 128}, {0, 255}, {1}, {127, 31: 255}, {128}, {255, 255}}
	var all []Key
	for _, length := range []uint32{0, 1, 2, 255, 256, 1<<31 - 1, 1 << 31, greatest - 1, greatest} {
		for _, draw := range digests {
			for _, hash := range digests {
				all = append(all, Key{Length: length, Draw: draw, Hash: hash})
			}
		}
	}
	return all
}

// P12.1, P12.2: each key of a row that rises is less than the ones behind it: so just one
// of any two is greater, and what is greater than a greater one is greater.
func TestCompareRow(t *testing.T) {
	all := some()
	for a := range all {
		for b := a; b < len(all); b++ {
			want := 0
			if a < b {
				want = -1
			}
			hold(t, all[a], all[b], want)
			if by := told(number(all[a]), number(all[b])); by != want {
				t.Fatalf("the row doesn't rise: %x, %x", all[a], all[b])
			}
		}
		if t.Failed() {
			return
		}
	}
}

// thing tells a key of chance, from few ones, so that its parts are often the same as
// another one's.
func thing(chance *rand.Rand) Key {
	one := func() api.Hash {
		return api.Hash{0: byte(chance.Intn(2) * 200), 7: byte(chance.Intn(2)), 31: byte(chance.Intn(2) * 130)}
	}
	return Key{Length: uint32(chance.Intn(3)) * 0x7fffffff, Draw: one(), Hash: one()}
}

// P12.1, P12.2: of keys of chance: as the numbers that they are, one of any two that aren't
// the same, and of three the greatest one is greater than the least one.
func TestCompareThree(t *testing.T) {
	chance := rand.New(rand.NewSource(13))
	for range 50000 {
		a, b, c := thing(chance), thing(chance), thing(chance)
		hold(t, a, b, told(number(a), number(b)))
		if (Compare(a, b) == 0) != (a == b) {
			t.Fatalf("%x, %x: the same", a, b)
		}
		if a != b && (Compare(a, b) > 0) == (Compare(b, a) > 0) {
			t.Fatalf("%x, %x: none, or both, greater", a, b)
		}
		if Compare(a, b) > 0 && Compare(b, c) > 0 && Compare(a, c) != 1 {
			t.Fatalf("%x, %x, %x: not on", a, b, c)
		}
	}
}

// P12.1, R4, R5: the same calls, with others between them, answer the same.
func TestCompareAgain(t *testing.T) {
	all := some()[:60]
	var first, again []int
	for _, answers := range []*[]int{&first, &again} {
		for _, a := range all {
			for _, b := range all {
				*answers = append(*answers, Compare(a, b), Hashes(a.Draw, b.Hash))
			}
			*answers = append(*answers, Greatest(all))
		}
	}
	if !slices.Equal(first, again) {
		t.Error("answers moved")
	}
	a := laid(t, row())
	k := Of(a)
	Of(state.State{})
	if Of(a) != k || a != laid(t, row()) {
		t.Error("a key moved, or its state")
	}
}

// P12.1: the key of a state that is longer is greater, whatever its draw and digest are, so
// that of a chain's states the last one is the greatest.
func TestStates(t *testing.T) {
	s := state.Genesis(running(7))
	keys := []Key{Of(s)}
	for slot := uint32(1); slot < 60; slot += 1 + slot%3 {
		c, failed := grow.Child(s, grow.Block{Slot: slot, Draw: api.Hash{byte(200 - 3*slot)}})
		if failed != api.OK {
			t.Fatal(slot, failed)
		}
		hold(t, Of(s), Of(c), -1)
		s = c
		keys = append(keys, Of(s))
		if place := Greatest(keys); place != len(keys)-1 {
			t.Errorf("slot %d: %d", slot, place)
		}
	}
	one, failed := grow.Child(s, grow.Block{Slot: 70, Draw: api.Hash{5}})
	other, failure := grow.Child(s, grow.Block{Slot: 90, Draw: api.Hash{4, 255}})
	if failed != api.OK || failure != api.OK {
		t.Fatal(failed, failure)
	}
	hold(t, Of(one), Of(other), 1) // the greater draw, and not the later slot
	other.Draw = one.Draw
	hold(t, Of(one), Of(other), told(number(Of(one)), number(Of(other))))
	hold(t, Of(one), Of(one), 0)
}
