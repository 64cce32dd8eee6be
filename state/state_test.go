package state

import (
	"bytes"
	"crypto/sha256"
	"encoding/binary"
	"encoding/hex"
	"fmt"
	"math"
	"math/rand"
	"reflect"
	"slices"
	"strings"
	"testing"

	"almagest/api"
	"almagest/epoch"
	"almagest/ring"
	"almagest/window"
)

const (
	greatest  = math.MaxUint32
	lastSub   = 1431655765 // the sub-window of the greatest slot
	lastEpoch = 178956970  // its epoch; its place is 15
	size      = 396        // bytes of a state
)

// running tells the digest whose bytes are a number, and on from it.
func running(n byte) api.Hash {
	var h api.Hash
	for i := range h {
		h[i] = n + byte(i)
	}
	return h
}

// some tells data whose digests run on from some numbers.
func some(ledger, seed, start, lock byte, length uint32) epoch.Data {
	return epoch.Data{Ledger: running(ledger), Seed: running(seed), Start: running(start), Lock: running(lock), Length: length}
}

// of tells a window state.
func of(least, last, a, b, c, d uint32) window.Win {
	return window.Win{Min: least, Ring: ring.Ring{Last: last, Counts: [api.Subs]uint32{a, b, c, d}}}
}

// unlike tells a state that is right, all fields of which are unlike. Its slot's epoch is
// 7020672, its place 13, and its sub-window 56165380, of the ring place 0.
func unlike() State {
	return State{
		Prev: running(0), Ledger: running(33), Draw: running(66),
		Slot: 0x0A0B0C0D, Length: 0x05060708, Count: 0x00010203,
		Win:    of(11, 0x03590404, 2, 3, 0, 1),
		Epochs: epoch.Pair{Now: some(99, 132, 165, 198, 0x11121314), Next: some(231, 8, 41, 74, 9)},
	}
}

// wrong tells a state that isn't right, no two bytes of whose numbers are alike.
func wrong() State {
	s := unlike()
	s.Slot, s.Length, s.Count = 0x01020304, 0x05060708, 0x090A0B0C
	s.Win = of(0x0D0E0F10, 0x11121314, 0x15161718, 0x191A1B1C, 0x1D1E1F20, 0x21222324)
	s.Epochs.Now.Length, s.Epochs.Next.Length = 0x25262728, 0x292A2B2C
	return s
}

// These are the bytes of unlike, of wrong, and of the first state of the digest that runs
// on from 7, as the chapter tells their order, written by another program.
const (
	unlikeBytes = `
		000102030405060708090a0b0c0d0e0f101112131415161718191a1b1c1d1e1f
		2122232425262728292a2b2c2d2e2f303132333435363738393a3b3c3d3e3f40
		42434445464748494a4b4c4d4e4f505152535455565758595a5b5c5d5e5f6061
		0a0b0c0d 05060708 00010203
		0000000b 03590404 00000002 00000003 00000000 00000001
		636465666768696a6b6c6d6e6f707172737475767778797a7b7c7d7e7f808182
		8485868788898a8b8c8d8e8f909192939495969798999a9b9c9d9e9fa0a1a2a3
		a5a6a7a8a9aaabacadaeafb0b1b2b3b4b5b6b7b8b9babbbcbdbebfc0c1c2c3c4
		c6c7c8c9cacbcccdcecfd0d1d2d3d4d5d6d7d8d9dadbdcdddedfe0e1e2e3e4e5
		11121314
		e7e8e9eaebecedeeeff0f1f2f3f4f5f6f7f8f9fafbfcfdfeff00010203040506
		08090a0b0c0d0e0f101112131415161718191a1b1c1d1e1f2021222324252627
		292a2b2c2d2e2f303132333435363738393a3b3c3d3e3f404142434445464748
		4a4b4c4d4e4f505152535455565758595a5b5c5d5e5f60616263646566676869
		00000009`
	wrongBytes = `
		000102030405060708090a0b0c0d0e0f101112131415161718191a1b1c1d1e1f
		2122232425262728292a2b2c2d2e2f303132333435363738393a3b3c3d3e3f40
		42434445464748494a4b4c4d4e4f505152535455565758595a5b5c5d5e5f6061
		01020304 05060708 090a0b0c
		0d0e0f10 11121314 15161718 191a1b1c 1d1e1f20 21222324
		636465666768696a6b6c6d6e6f707172737475767778797a7b7c7d7e7f808182
		8485868788898a8b8c8d8e8f909192939495969798999a9b9c9d9e9fa0a1a2a3
		a5a6a7a8a9aaabacadaeafb0b1b2b3b4b5b6b7b8b9babbbcbdbebfc0c1c2c3c4
		c6c7c8c9cacbcccdcecfd0d1d2d3d4d5d6d7d8d9dadbdcdddedfe0e1e2e3e4e5
		25262728
		e7e8e9eaebecedeeeff0f1f2f3f4f5f6f7f8f9fafbfcfdfeff00010203040506
		08090a0b0c0d0e0f101112131415161718191a1b1c1d1e1f2021222324252627
		292a2b2c2d2e2f303132333435363738393a3b3c3d3e3f404142434445464748
		4a4b4c4d4e4f505152535455565758595a5b5c5d5e5f60616263646566676869
		292a2b2c`
	firstBytes = `
		0000000000000000000000000000000000000000000000000000000000000000
		0708090a0b0c0d0e0f101112131415161718191a1b1c1d1e1f20212223242526
		0000000000000000000000000000000000000000000000000000000000000000
		00000000 00000001 00000000
		0000000c 00000000 00000001 00000003 00000003 00000003
		0708090a0b0c0d0e0f101112131415161718191a1b1c1d1e1f20212223242526
		0000000000000000000000000000000000000000000000000000000000000000
		0000000000000000000000000000000000000000000000000000000000000000
		0000000000000000000000000000000000000000000000000000000000000000
		00000001
		0708090a0b0c0d0e0f101112131415161718191a1b1c1d1e1f20212223242526
		0000000000000000000000000000000000000000000000000000000000000000
		0000000000000000000000000000000000000000000000000000000000000000
		0000000000000000000000000000000000000000000000000000000000000000
		00000001`
)

// bytesOf tells bytes that are written in sixteens.
func bytesOf(t *testing.T, text string) []byte {
	t.Helper()
	b, err := hex.DecodeString(strings.Join(strings.Fields(text), ""))
	if err != nil {
		t.Fatal(err)
	}
	return b
}

// laid tells the bytes of a state whose fields are laid one behind the other, as the
// struct has them; the chapter's order is the same.
func laid(t *testing.T, s State) []byte {
	t.Helper()
	b, err := binary.Append(nil, binary.BigEndian, s)
	if err != nil {
		t.Fatal(err)
	}
	return b
}

// fields tells each digest and each number of a state by itself.
func fields(s *State) []reflect.Value {
	var all []reflect.Value
	var add func(v reflect.Value)
	add = func(v reflect.Value) {
		switch {
		case v.Kind() == reflect.Struct:
			for i := range v.NumField() {
				add(v.Field(i))
			}
		case v.Kind() == reflect.Array && v.Type() != reflect.TypeFor[api.Hash]():
			for i := range v.Len() {
				add(v.Index(i))
			}
		default:
			all = append(all, v)
		}
	}
	add(reflect.ValueOf(s).Elem())
	return all
}

// counted tells how often a slot holds so many, and what is left, by taking away: far off
// many at once, at last one by one.
func counted(s uint32, each int64) (often, left int64) {
	left = int64(s)
	for _, leap := range []int64{1 << 20, 1 << 10, 1} {
		for left >= each*leap {
			left, often = left-each*leap, often+leap
		}
	}
	return often, left
}

// may tells whether a state is right, word by word, in numbers of 64 bits.
func may(s State) bool {
	slot, length, next := int64(s.Slot), int64(s.Length), int64(s.Epochs.Next.Length)
	ofEpoch, place := counted(s.Slot, 24)
	sub, _ := counted(s.Slot, 3)
	for at, count := range s.Win.Ring.Counts {
		if count > 3 || count < 1 && at == int(sub&3) {
			return false
		}
	}
	return int64(s.Win.Ring.Last) == sub && s.Win.Min <= 12 &&
		length > 0 && length < slot+2 &&
		int64(s.Count) < ofEpoch+1 && int64(s.Count) < length &&
		next > 0 && next < length+1 && next < place+2
}

// at tells a state that is right, in a slot, of as few blocks as there may be.
func at(s uint32) State {
	sub, _ := counted(s, 3)
	return State{Slot: s, Length: 1, Win: of(0, uint32(sub), 1, 1, 1, 1), Epochs: epoch.Pair{Next: epoch.Data{Length: 1}}}
}

// with tells a state in a slot, and its numbers.
func with(s, length, count, next uint32) State {
	out := at(s)
	out.Length, out.Count, out.Epochs.Next.Length = length, count, next
	return out
}

// history tells the states of a chain, from the first one on: one of each slot that
// has a block.
func history(t *testing.T, slots []uint32) []State {
	t.Helper()
	all := []State{Genesis(running(100))}
	for n, to := range slots {
		s := all[n]
		prev := sha256.Sum256(laid(t, s))
		draw := sha256.Sum256(prev[:])
		win, full := window.Put(s.Win, to)
		pair, over := epoch.Follow(s.Epochs, epoch.Block{From: s.Slot, To: to, Prev: prev, Ledger: s.Ledger, Draw: draw})
		if full != api.OK || over != api.OK {
			t.Fatalf("slot %d: %d, %d", to, full, over)
		}
		if to/24 > s.Slot/24 {
			s.Count++
		}
		all = append(all, State{prev, sha256.Sum256(draw[:]), draw, to, s.Length + 1, s.Count, win, pair})
	}
	return all
}

// histories tells chains: each slot, gaps of all kinds, and up to the greatest slot.
func histories(t *testing.T) []State {
	t.Helper()
	chance := rand.New(rand.NewSource(9))
	each := make([]uint32, 200)
	for i := range each {
		each[i] = uint32(i + 1)
	}
	all := history(t, each)
	for _, most := range []int{2, 5, 30, 100, 1 << 24} {
		var slots []uint32
		for s := 0; len(slots) < 200; {
			s += 1 + chance.Intn(most)
			slots = append(slots, uint32(s))
		}
		all = append(all, history(t, slots)...)
	}
	return append(all, history(t, []uint32{greatest - 30, greatest - 16, greatest - 15, greatest - 1, greatest})...)
}

// rights tells states that are right: those of histories, and others.
func rights(t *testing.T) []State {
	t.Helper()
	all := append(histories(t), unlike(), Genesis(api.Hash{}))
	for _, s := range []uint32{0, 1, 23, 24, 1 << 31, greatest} {
		all = append(all, at(s))
	}
	return append(all, with(greatest, greatest, lastEpoch, 16))
}

// P9.1: the chapter's example: any state has 396 bytes.
func TestExample(t *testing.T) {
	for _, s := range append(rights(t), wrong(), State{}) {
		if b := Bytes(s); len(b) != size {
			t.Fatalf("%v: %d bytes", s, len(b))
		}
	}
}

// P9.1: the first state has that ledger, and no digest else; it is of slot 0, and alone.
func TestGenesis(t *testing.T) {
	for _, ledger := range []api.Hash{{}, {1}, {31: 1}, running(1), running(200), sha256.Sum256(nil)} {
		s := Genesis(ledger)
		if s.Prev != (api.Hash{}) || s.Ledger != ledger || s.Draw != (api.Hash{}) {
			t.Errorf("%x: digests %x, %x, %x", ledger, s.Prev, s.Ledger, s.Draw)
		}
		if s.Slot != 0 || s.Length != 1 || s.Count != 0 {
			t.Errorf("%x: numbers %d, %d, %d", ledger, s.Slot, s.Length, s.Count)
		}
		if s.Win != of(12, 0, 1, 3, 3, 3) || s.Win != window.Genesis() {
			t.Errorf("%x: window %v", ledger, s.Win)
		}
		for _, d := range []epoch.Data{s.Epochs.Now, s.Epochs.Next} {
			if d != (epoch.Data{Ledger: ledger, Length: 1}) {
				t.Errorf("%x: data %v", ledger, d)
			}
		}
		if s.Epochs != epoch.First(ledger) || !Right(s) {
			t.Errorf("%x: %v", ledger, s)
		}
	}
}

// P9.1: bytes written out: of a state that is right, of one that isn't, and of a first one.
func TestBytesWrittenOut(t *testing.T) {
	for name, c := range map[string]struct {
		s    State
		want []byte
	}{
		"unlike": {unlike(), bytesOf(t, unlikeBytes)},
		"wrong":  {wrong(), bytesOf(t, wrongBytes)},
		"first":  {Genesis(running(7)), bytesOf(t, firstBytes)},
		"zero":   {State{}, make([]byte, size)},
	} {
		if got := Bytes(c.s); !bytes.Equal(got, c.want) || len(got) != size {
			t.Errorf("%s: %x; want %x", name, got, c.want)
		}
	}
}

// P9.1: digests that another program made, of the name's bytes, and of 396 ones.
func TestHashWrittenOut(t *testing.T) {
	for _, c := range []struct {
		s    State
		want string
	}{
		{unlike(), "e743ce9f108fefaba53987e918b209b523b91d8d576d747e7ae6069601c1d384"},
		{wrong(), "10ffbb99ba07902db92e8344b6fdc6e5839c86b925de2605f6db86fdfc44179f"},
		{Genesis(api.Hash{}), "cffac579332a43cbaf537dbd863c942503c703e7162b6ab2933af41607b49214"},
		{Genesis(running(7)), "ed22f684a48cf8063075fabfd5d9ba06285a739f65b77133d5cb042082abcda1"},
		{State{}, "04c62176e9f305cbdda2cc0a785ef2b41a9e0a324e3dda7339bb09ac9c3226e9"},
	} {
		if got := Hash(c.s); hex.EncodeToString(got[:]) != c.want {
			t.Errorf("%v: %x; want %s", c.s, got, c.want)
		}
	}
}

// P9.1: bytes and digests of many states, against what is laid out by the library.
func TestBytesAndHash(t *testing.T) {
	image := []byte{5, 's', 't', 'a', 't', 'e', 1, 0, 0, 1, 140}
	for _, s := range append(rights(t), wrong(), State{}) {
		want := laid(t, s)
		if got := Bytes(s); !bytes.Equal(got, want) {
			t.Fatalf("%v: %x; want %x", s, got, want)
		}
		if got, want := Hash(s), sha256.Sum256(append(image, want...)); got != want {
			t.Fatalf("%v: digest %x; want %x", s, got, want)
		}
	}
}

// changed tells a state that is changed in one way.
func changed(s State, change func(*State)) State {
	change(&s)
	return s
}

// P9.1: at each bound that the chapter names, and just beyond it.
func TestRightAtBounds(t *testing.T) {
	win := func(w window.Win) State { return changed(unlike(), func(s *State) { s.Win = w }) }
	last := uint32(0x03590404)
	for name, c := range map[string]struct {
		s    State
		want bool
	}{
		"unlike":     {unlike(), true},
		"zero":       {State{}, false},
		"wrong":      {wrong(), false},
		"at 0":       {at(0), true},
		"at 23":      {at(23), true},
		"at 24":      {at(24), true},
		"at the end": {at(greatest), true},

		// Win is right.
		"Min 0":            {win(of(0, last, 2, 3, 0, 1)), true},
		"Min 12":           {win(of(12, last, 2, 3, 0, 1)), true},
		"Min 13":           {win(of(13, last, 2, 3, 0, 1)), false},
		"the greatest Min": {win(of(greatest, last, 2, 3, 0, 1)), false},
		"counts 3":         {win(of(11, last, 3, 3, 3, 3)), true},
		"count 0 is 4":     {win(of(11, last, 4, 3, 0, 1)), false},
		"count 1 is 4":     {win(of(11, last, 2, 4, 0, 1)), false},
		"count 2 is 4":     {win(of(11, last, 2, 3, 4, 1)), false},
		"count 3 is 4":     {win(of(11, last, 2, 3, 0, 4)), false},
		"Last has none":    {win(of(11, last, 0, 3, 0, 1)), false},
		"Last has one":     {win(of(11, last, 1, 0, 0, 0)), true},

		// The ring's Last is the slot's sub-window.
		"Last behind":           {win(of(11, last+1, 2, 3, 1, 1)), false},
		"Last ahead":            {win(of(11, last-1, 2, 3, 1, 1)), false},
		"Last 4 behind":         {win(of(11, last+4, 2, 3, 1, 1)), false},
		"Last 0":                {win(of(11, 0, 2, 3, 1, 1)), false},
		"Last the slot":         {win(of(11, 0x0A0B0C0D, 2, 3, 1, 1)), false},
		"2 of 0":                {changed(at(0), func(s *State) { s.Slot = 2 }), true},
		"3 of 0":                {changed(at(0), func(s *State) { s.Slot = 3 }), false},
		"2 of 1":                {changed(at(3), func(s *State) { s.Slot = 2 }), false},
		"one ahead of the end":  {changed(at(greatest), func(s *State) { s.Slot-- }), false},
		"Last beyond the end":   {changed(at(greatest), func(s *State) { s.Win.Ring.Last++ }), false},
		"Last ahead of the end": {changed(at(greatest), func(s *State) { s.Win.Ring.Last-- }), false},

		// Length is from 1 to the slot and 1.
		"slot 0, Length 0":         {with(0, 0, 0, 0), false},
		"slot 0, Length 0, Next 1": {with(0, 0, 0, 1), false},
		"slot 0, Length 1":         {with(0, 1, 0, 1), true},
		"slot 0, Length 2":         {with(0, 2, 0, 1), false},
		"slot 0, the greatest":     {with(0, greatest, 0, 1), false},
		"slot 1, Length 2":         {with(1, 2, 0, 1), true},
		"slot 1, Length 3":         {with(1, 3, 0, 1), false},
		"slot 40, Length 0":        {with(40, 0, 0, 1), false},
		"slot 40, Length 1":        {with(40, 1, 0, 1), true},
		"slot 40, Length 41":       {with(40, 41, 0, 1), true},
		"slot 40, Length 42":       {with(40, 42, 0, 1), false},
		"2^32-2, 2^32-1":           {with(greatest-1, greatest, 0, 1), true},
		"2^32-3, 2^32-2":           {with(greatest-2, greatest-1, 0, 1), true},
		"2^32-3, 2^32-1":           {with(greatest-2, greatest, 0, 1), false},
		"2^32-1, 0":                {with(greatest, 0, 0, 0), false},
		"2^32-1, 0, Next 1":        {with(greatest, 0, 0, 1), false},
		"2^32-1, 1":                {with(greatest, 1, 0, 1), true},
		"2^32-1, 2^32-1":           {with(greatest, greatest, 0, 1), true},

		// Count is no more than the slot's epoch, and less than Length.
		"epoch 0, Count 0":                {with(23, 24, 0, 1), true},
		"epoch 0, Count 1":                {with(23, 24, 1, 1), false},
		"epoch 1, Count 1":                {with(24, 25, 1, 1), true},
		"epoch 1, Count 2":                {with(24, 25, 2, 1), false},
		"epoch 1, Count 1, Length 1":      {with(24, 1, 1, 1), false},
		"epoch 1, Count 1, Length 2":      {with(24, 2, 1, 1), true},
		"epoch 9, Count 9, Length 10":     {with(9*24, 10, 9, 1), true},
		"epoch 9, Count 9, Length 9":      {with(9*24, 9, 9, 1), false},
		"epoch 9, Count 10, Length 11":    {with(9*24, 11, 10, 1), false},
		"epoch 9, Count 8, Length 9":      {with(9*24, 9, 8, 1), true},
		"epoch 9, the greatest Count":     {with(9*24, 11, greatest, 1), false},
		"last epoch, all":                 {with(greatest, greatest, lastEpoch, 1), true},
		"last epoch, one more":            {with(greatest, greatest, lastEpoch+1, 1), false},
		"last epoch, as short":            {with(greatest, lastEpoch+1, lastEpoch, 1), true},
		"last epoch, too short":           {with(greatest, lastEpoch, lastEpoch, 1), false},
		"last epoch, the greatest Count":  {with(greatest, greatest, greatest, 1), false},
		"last epoch, Count of two states": {with(greatest, 1, 1, 1), false},

		// Next's Length is from 1 to Length, and no more than the slot's place and 1.
		"slot 0, Next 0":                {with(0, 1, 0, 0), false},
		"slot 0, Next 2":                {with(0, 1, 0, 2), false},
		"place 5, Next 0":               {with(29, 20, 0, 0), false},
		"place 5, Next 1":               {with(29, 20, 0, 1), true},
		"place 5, Next 6":               {with(29, 20, 0, 6), true},
		"place 5, Next 7":               {with(29, 20, 0, 7), false},
		"place 5, Length 5, Next 5":     {with(29, 5, 0, 5), true},
		"place 5, Length 5, Next 6":     {with(29, 5, 0, 6), false},
		"place 5, Length 6, Next 6":     {with(29, 6, 0, 6), true},
		"place 5, Length 7, Next 7":     {with(29, 7, 0, 7), false},
		"place 0, Next 1":               {with(24, 20, 0, 1), true},
		"place 0, Next 2":               {with(24, 20, 0, 2), false},
		"place 23, Next 24":             {with(23, 24, 0, 24), true},
		"place 23, Next 25":             {with(47, 30, 0, 25), false},
		"place 23, the greatest Next":   {with(23, 24, 0, greatest), false},
		"the end, Next 0":               {with(greatest, greatest, 0, 0), false},
		"the end, Next 16":              {with(greatest, greatest, 0, 16), true},
		"the end, Next 17":              {with(greatest, greatest, 0, 17), false},
		"the end, the greatest Next":    {with(greatest, greatest, 0, greatest), false},
		"the end, Length 1, Next 1":     {with(greatest, 1, 0, 1), true},
		"the end, Length 1, Next 2":     {with(greatest, 1, 0, 2), false},
		"ahead of the last epoch, 24":   {with(lastEpoch*24-1, greatest-16, 0, 24), true},
		"ahead of the last epoch, 25":   {with(lastEpoch*24-1, greatest-16, 0, 25), false},
		"begin of the last epoch, 1":    {with(lastEpoch*24, greatest-15, 0, 1), true},
		"begin of the last epoch, 2":    {with(lastEpoch*24, greatest-15, 0, 2), false},
		"begin of the last epoch, long": {with(lastEpoch*24, greatest-13, 0, 1), false},
	} {
		if got := Right(c.s); got != c.want {
			t.Errorf("%s: %v; want %v: %v", name, got, c.want, c.s)
		}
		if may(c.s) != c.want {
			t.Errorf("%s: the test's own word is %v", name, !c.want)
		}
	}
}

// P9.1: what the chapter doesn't bound is of no account: digests, and Now's Length.
func TestRightOfAnyDigest(t *testing.T) {
	for n := range byte(2) {
		for _, length := range []uint32{0, 1, 14, 15, 1 << 31, greatest} {
			s := unlike()
			for _, v := range fields(&s) {
				if v.Kind() == reflect.Array {
					v.Set(reflect.ValueOf(running(n * 50)))
				}
			}
			s.Epochs.Now.Length = length
			if !Right(s) {
				t.Errorf("Now's Length %d: %v", length, s)
			}
		}
	}
}

// P9.1: numbers about each bound, all with all, against the chapter's words.
func TestRightOfAll(t *testing.T) {
	count := 0
	for _, s := range []uint32{0, 1, 2, 3, 22, 23, 24, 25, 47, 48, 240, 1 << 31, lastEpoch*24 - 1, lastEpoch * 24, greatest - 1, greatest} {
		place, ofEpoch := s%24, s/24
		lengths := []uint32{0, 1, 2, place, place + 1, place + 2, ofEpoch, ofEpoch + 1, ofEpoch + 2, s, s + 1, s + 2, greatest}
		counts := []uint32{0, 1, ofEpoch - 1, ofEpoch, ofEpoch + 1, s, greatest}
		for _, length := range lengths {
			for _, many := range append(counts, length-1, length, length+1) {
				for _, next := range append(lengths, length-1, length+1) {
					state := with(s, length, many, next)
					got := Right(state)
					if got != may(state) {
						t.Fatalf("%v: %v", state, got)
					}
					if got {
						count++
					}
				}
			}
		}
	}
	if count < 100 {
		t.Errorf("only %d are right", count)
	}
}

// P9.1: all counts of a ring up to one too many, of each Last about the slot's sub-window.
func TestRightOfWindows(t *testing.T) {
	for _, s := range []uint32{0, 5, 40, 1 << 31, greatest - 7, greatest} {
		for n := range uint32(5 * 5 * 5 * 5) {
			for _, by := range []uint32{0, 1, 2, 4, greatest, greatest - 1} {
				for _, least := range []uint32{0, 12, 13} {
					state := at(s)
					state.Win = of(least, state.Win.Ring.Last+by, n%5, n/5%5, n/25%5, n/125)
					if got := Right(state); got != may(state) {
						t.Fatalf("%v: %v", state, got)
					}
				}
			}
		}
	}
}

// refuse holds that bytes are refused, and that beside the error the state is the zero one.
func refuse(t *testing.T, b []byte, want api.Errno) {
	t.Helper()
	if s, failed := Read(b); s != (State{}) || failed != want {
		t.Fatalf("%d bytes %x: %v, %d; want %d", len(b), b[:min(len(b), size+1)], s, failed, want)
	}
}

// P9.2: fewer bytes, and more, than a state has: whether those that are there would be
// right or not.
func TestReadLengths(t *testing.T) {
	refuse(t, nil, api.ErrShort)
	refuse(t, []byte{}, api.ErrShort)
	for _, s := range []State{unlike(), Genesis(running(1)), wrong(), {}} {
		long := append(Bytes(s), Bytes(unlike())...)
		for n := range long {
			if n < size {
				refuse(t, long[:n], api.ErrShort)
			} else if n > size {
				refuse(t, long[:n], api.ErrLong)
			}
		}
		refuse(t, append(Bytes(s), make([]byte, 1<<20)...), api.ErrLong)
	}
	refuse(t, Bytes(unlike())[1:], api.ErrShort)
	refuse(t, append([]byte{0}, Bytes(unlike())...), api.ErrLong)
}

// P9.2: bytes of states that aren't right.
func TestReadForm(t *testing.T) {
	refuse(t, make([]byte, size), api.ErrForm)
	refuse(t, bytes.Repeat([]byte{255}, size), api.ErrForm)
	refuse(t, bytesOf(t, wrongBytes), api.ErrForm)
	for _, s := range []State{
		with(0, 0, 0, 0), with(0, 2, 0, 1), with(40, 42, 0, 1), with(40, 41, 2, 1), with(40, 1, 1, 1),
		with(40, 41, 0, 0), with(40, 41, 0, 18), with(40, 16, 0, 17), with(greatest, 0, 0, 0), with(greatest, greatest, 0, 17),
		changed(unlike(), func(s *State) { s.Win.Min = 13 }),
		changed(unlike(), func(s *State) { s.Win.Ring.Last++ }),
		changed(unlike(), func(s *State) { s.Win.Ring.Counts[0] = 0 }),
		changed(unlike(), func(s *State) { s.Win.Ring.Counts[3] = 4 }),
	} {
		refuse(t, laid(t, s), api.ErrForm)
	}
}

// P9.2: bytes written out, as states.
func TestReadWrittenOut(t *testing.T) {
	for text, want := range map[string]State{unlikeBytes: unlike(), firstBytes: Genesis(running(7))} {
		if got, failed := Read(bytesOf(t, text)); got != want || failed != api.OK {
			t.Errorf("%v, %d; want %v", got, failed, want)
		}
	}
}

// P9.2, P9.3: states that are right come back from their bytes, and the bytes from them;
// so do those that each step of a history makes.
func TestStatesComeBack(t *testing.T) {
	for _, s := range rights(t) {
		b := laid(t, s)
		if !may(s) || !Right(s) {
			t.Fatalf("%v isn't right", s)
		}
		got, failed := Read(b)
		if got != s || failed != api.OK {
			t.Fatalf("%v, %d; want %v", got, failed, s)
		}
		if !bytes.Equal(Bytes(got), b) {
			t.Fatalf("%v: %x; want %x", s, Bytes(got), b)
		}
	}
}

// P9.2, P9.3: any bytes, as many as a state has, are of just one state: right, or refused.
func TestAnyBytesRead(t *testing.T) {
	chance := rand.New(rand.NewSource(99))
	all := rights(t)
	right := 0
	for range 40000 {
		b := laid(t, all[chance.Intn(len(all))])
		for range chance.Intn(4) {
			b[chance.Intn(size)] ^= byte(1 << chance.Intn(8))
		}
		var want State
		if n, err := binary.Decode(b, binary.BigEndian, &want); n != size || err != nil {
			t.Fatal(n, err)
		}
		if !may(want) {
			refuse(t, b, api.ErrForm)
			continue
		}
		right++
		if got, failed := Read(b); got != want || failed != api.OK || !bytes.Equal(Bytes(got), b) {
			t.Fatalf("%x: %v, %d; want %v", b, got, failed, want)
		}
	}
	if right < 10000 || right > 39000 {
		t.Errorf("%d of 40000 are right", right)
	}
}

// P9.3: states that are unlike in one field alone have bytes that are unlike there alone,
// and unlike digests: each bit of each field.
func TestUnlikeInOneField(t *testing.T) {
	for _, s := range []State{unlike(), wrong(), {}, Genesis(running(3))} {
		was, digest, from := Bytes(s), Hash(s), 0
		for n, v := range fields(&s) {
			wide := int(v.Type().Size())
			for bit := range wide * 8 {
				kept := reflect.ValueOf(v.Interface())
				if v.Kind() == reflect.Array {
					v.Index(bit / 8).SetUint(v.Index(bit/8).Uint() ^ 128>>(bit%8))
				} else {
					v.SetUint(v.Uint() ^ 1<<(31-bit))
				}
				want := slices.Clone(was)
				want[from+bit/8] ^= 128 >> (bit % 8)
				if got := Bytes(s); !bytes.Equal(got, want) || Hash(s) == digest {
					t.Fatalf("field %d, bit %d: %x; want %x", n, bit, got, want)
				}
				v.Set(kept)
			}
			from += wide
		}
		if from != size || !bytes.Equal(Bytes(s), was) {
			t.Fatalf("%d bytes", from)
		}
	}
}

// P9.3: states that are all unlike have bytes, and digests, that are all unlike.
func TestUnlikeStates(t *testing.T) {
	states, images, digests := map[State]bool{}, map[string]bool{}, map[api.Hash]bool{}
	for _, s := range rights(t) {
		states[s], images[string(Bytes(s))], digests[Hash(s)] = true, true, true
	}
	if len(states) != len(images) || len(states) != len(digests) || len(states) < 1000 {
		t.Errorf("%d states, %d bytes, %d digests", len(states), len(images), len(digests))
	}
}

// R1, Ways: whoever goes through the digests may break off behind each; they come in order.
func TestDigestsBreakOff(t *testing.T) {
	order := []byte{0, 33, 66, 99, 132, 165, 198, 231, 8, 41, 74}
	for most := 1; most <= len(order); most++ {
		s := unlike()
		var seen []byte
		for digest, numbers := range s.digests {
			seen = append(seen, digest[0])
			if *digest != running(digest[0]) {
				t.Errorf("%x", *digest)
			}
			if want := map[byte]int{66: 9, 198: 1, 74: 1}[digest[0]]; len(numbers) != want {
				t.Errorf("%d numbers behind %d; want %d", len(numbers), digest[0], want)
			}
			if len(seen) == most {
				break
			}
		}
		if !bytes.Equal(seen, order[:most]) {
			t.Errorf("%v; want %v", seen, order[:most])
		}
	}
}

// R3: the slice that came in stays as it was, also behind its end.
func TestBytesThatCameInStay(t *testing.T) {
	for _, s := range []State{unlike(), wrong()} {
		room := append(Bytes(s), Bytes(Genesis(running(5)))...)
		was := slices.Clone(room)
		for _, n := range []int{0, size - 1, size, size + 1, len(room)} {
			Read(room[:n])
			if !bytes.Equal(room, was) {
				t.Errorf("%d bytes: they are changed", n)
			}
		}
	}
}

// R3: what was read stays when the bytes change; bytes that were handed out aren't part
// of anything else, whoever writes to them, or behind them.
func TestNothingIsShared(t *testing.T) {
	b := Bytes(unlike())
	s, _ := Read(b)
	clear(b)
	if s != unlike() {
		t.Errorf("what was read is changed: %v", s)
	}
	first, second := Bytes(s), Bytes(s)
	clear(first)
	for i := range first[:cap(first)] {
		first[:cap(first)][i] = 9
	}
	if want := bytesOf(t, unlikeBytes); !bytes.Equal(second, want) || !bytes.Equal(Bytes(s), want) || s != unlike() {
		t.Errorf("what was handed out is part of something else: %x", second)
	}
}

// R3: states that are handed in stay as they were.
func TestStatesStay(t *testing.T) {
	for _, want := range []State{unlike(), wrong(), Genesis(running(1))} {
		s := want
		Right(s)
		Bytes(s)
		Hash(s)
		if s != want {
			t.Errorf("%v; want %v", s, want)
		}
	}
}

// R4, R5: the same calls answer the same, whatever was asked in between.
func TestTheSameAgain(t *testing.T) {
	ask := func() string {
		s, failed := Read(bytesOf(t, unlikeBytes))
		return fmt.Sprint(s, failed, Right(s), Bytes(s), Hash(s), Genesis(running(3)), Hash(Genesis(running(3))))
	}
	was := ask()
	for _, s := range append(histories(t)[:50], wrong()) {
		Read(Bytes(s))
		Right(s)
		Hash(s)
		Genesis(s.Ledger)
		if ask() != was {
			t.Fatalf("unlike behind %v", s)
		}
	}
}
