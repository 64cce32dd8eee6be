package message

import (
	"bytes"
	"encoding/binary"
	"encoding/hex"
	"math"
	"math/rand"
	"reflect"
	"slices"
	"strings"
	"testing"

	"almagest/account"
	"almagest/api"
	"almagest/epoch"
	"almagest/grow"
	"almagest/proof"
	"almagest/ring"
	"almagest/state"
	"almagest/tree"
	"almagest/window"
)

// running tells the digest whose bytes are a number, and on from it.
func running(n byte) api.Hash {
	var h api.Hash
	for i := range h {
		h[i] = n + byte(i)
	}
	return h
}

// rising tells the path whose digests run on from some numbers.
func rising() tree.Path { return tree.Path{running(0), running(40), running(80), running(120)} }

// unlike tells a state that is right, all fields of which are unlike.
func unlike() state.State {
	data := func(ledger, seed, start, lock byte, length uint32) epoch.Data {
		return epoch.Data{Ledger: running(ledger), Seed: running(seed), Start: running(start), Lock: running(lock), Length: length}
	}
	return state.State{
		Prev: running(0), Ledger: running(33), Draw: running(66),
		Slot: 0x0A0B0C0D, Length: 0x05060708, Count: 0x00010203,
		Win:    window.Win{Min: 11, Ring: ring.Ring{Last: 0x03590404, Counts: [4]uint32{2, 3, 0, 1}}},
		Epochs: epoch.Pair{Now: data(99, 132, 165, 198, 0x11121314), Next: data(231, 8, 41, 74, 9)},
	}
}

// shown tells a message of Show that may be.
func shown() Message {
	return Message{Kind: 4, Place: 10, Account: account.Account{Name: "ab", Balance: 258, Nonce: 3}, Path: rising()}
}

// samples tells messages of all Kinds that may be.
func samples() []Message {
	all := []Message{{Kind: 3}}
	for _, version := range []uint32{0, 1, 255, 256, 258, 0x01020304, 1 << 31, math.MaxUint32} {
		all = append(all, Message{Kind: 1, Version: version})
	}
	last, _, _ := grow.Chain(running(9), []grow.Block{{Slot: 3, Draw: running(1)}, {Slot: 30, Ledger: running(2)}, {Slot: math.MaxUint32}})
	for _, s := range []state.State{unlike(), state.Genesis(api.Hash{}), state.Genesis(running(7)), last} {
		all = append(all, Message{Kind: 2, State: s})
	}
	for place := range 16 {
		a := account.Account{Name: "zahxqpwc"[:1+place%8], Balance: uint64(place) << 59, Nonce: uint32(place) * 0x11111111}
		all = append(all, Message{Kind: 4, Place: place, Account: a}, Message{Kind: 4, Place: place, Account: a, Path: rising()})
	}
	return append(all, shown())
}

// zero tells whether all of some things are zero.
func zero(things ...any) bool {
	for _, x := range things {
		if !reflect.ValueOf(x).IsZero() {
			return false
		}
	}
	return true
}

// may tells by the chapter's words whether a message may be.
func may(m Message) bool {
	switch m.Kind {
	case 1:
		return zero(m.State, m.Place, m.Account, m.Path)
	case 2:
		return zero(m.Version, m.Place, m.Account, m.Path) && state.Right(m.State)
	case 3:
		return zero(m.Version, m.State, m.Place, m.Account, m.Path)
	case 4:
		return zero(m.Version, m.State) && m.Place > -1 && m.Place < 16 && account.Right(m.Account)
	}
	return false
}

// told tells by the chapter's words, and by those of the layers below, the bytes of a
// message that may be.
func told(m Message) []byte {
	b := []byte{m.Kind}
	switch m.Kind {
	case 1:
		b = binary.BigEndian.AppendUint32(b, m.Version)
	case 2:
		// A state's fields are laid one behind the other, as its bytes are.
		b, _ = binary.Append(b, binary.BigEndian, m.State)
	case 4:
		b = append(b, byte(m.Place), byte(1+len(m.Account.Name)+12), byte(len(m.Account.Name)))
		b = append(b, m.Account.Name...)
		b = binary.BigEndian.AppendUint64(b, m.Account.Balance)
		b = binary.BigEndian.AppendUint32(b, m.Account.Nonce)
		b, _ = binary.Append(b, binary.BigEndian, m.Path)
	}
	return b
}

// hold holds what is told of a message against the chapter's words.
func hold(t *testing.T, m Message) {
	t.Helper()
	want, failed := []byte(nil), api.ErrArg
	if may(m) {
		want, failed = told(m), api.OK
	}
	before := m
	if right := Right(m); right != (failed == api.OK) {
		t.Errorf("%+v: right %t", m, right)
	}
	if b, e := Bytes(m); !bytes.Equal(b, want) || e != failed {
		t.Errorf("%+v: bytes %x, %d; want %x, %d", m, b, e, want, failed)
	}
	if m != before {
		t.Errorf("%+v: it changed to %+v", before, m)
	}
}

// refuse holds that a message may not be.
func refuse(t *testing.T, m Message) {
	t.Helper()
	if Right(m) {
		t.Errorf("%+v is right", m)
	}
	if b, failed := Bytes(m); b != nil || failed != api.ErrArg {
		t.Errorf("%+v: bytes %x, %d", m, b, failed)
	}
	hold(t, m)
}

// written tells bytes of hexadecimal digits, however they are parted.
func written(digits string) []byte {
	b, err := hex.DecodeString(strings.Join(strings.Fields(digits), ""))
	if err != nil {
		panic(digits)
	}
	return b
}

// These are the bytes of messages as the chapters tell their order, written by another
// program: of Tip with unlike, and with the first state of the digest that runs on from 7;
// and of shown.
const (
	unlikeBytes = `02
		000102030405060708090a0b0c0d0e0f101112131415161718191a1b1c1d1e1f
		2122232425262728292a2b2c2d2e2f303132333435363738393a3b3c3d3e3f40
		42434445464748494a4b4c4d4e4f505152535455565758595a5b5c5d5e5f6061
		0a0b0c0d0506070800010203
		0000000b0359040400000002000000030000000000000001
		636465666768696a6b6c6d6e6f707172737475767778797a7b7c7d7e7f808182
		8485868788898a8b8c8d8e8f909192939495969798999a9b9c9d9e9fa0a1a2a3
		a5a6a7a8a9aaabacadaeafb0b1b2b3b4b5b6b7b8b9babbbcbdbebfc0c1c2c3c4
		c6c7c8c9cacbcccdcecfd0d1d2d3d4d5d6d7d8d9dadbdcdddedfe0e1e2e3e4e5
		11121314
		e7e8e9eaebecedeeeff0f1f2f3f4f5f6f7f8f9fafbfcfdfeff00010203040506
		08090a0b0c0d0e0f101112131415161718191a1b1c1d1e1f2021222324252627
		292a2b2c2d2e2f303132333435363738393a3b3c3d3e3f404142434445464748
		4a4b4c4d4e4f505152535455565758595a5b5c5d5e5f60616263646566676869
		00000009`
	firstBytes = `02
		0000000000000000000000000000000000000000000000000000000000000000
		0708090a0b0c0d0e0f101112131415161718191a1b1c1d1e1f20212223242526
		0000000000000000000000000000000000000000000000000000000000000000
		000000000000000100000000
		0000000c0000000000000001000000030000000300000003
		0708090a0b0c0d0e0f101112131415161718191a1b1c1d1e1f20212223242526
		0000000000000000000000000000000000000000000000000000000000000000
		0000000000000000000000000000000000000000000000000000000000000000
		0000000000000000000000000000000000000000000000000000000000000000
		00000001
		0708090a0b0c0d0e0f101112131415161718191a1b1c1d1e1f20212223242526
		0000000000000000000000000000000000000000000000000000000000000000
		0000000000000000000000000000000000000000000000000000000000000000
		0000000000000000000000000000000000000000000000000000000000000000
		00000001`
	shownBytes = `04 0a 0f 026162000000000000010200000003
		000102030405060708090a0b0c0d0e0f101112131415161718191a1b1c1d1e1f
		28292a2b2c2d2e2f303132333435363738393a3b3c3d3e3f4041424344454647
		505152535455565758595a5b5c5d5e5f606162636465666768696a6b6c6d6e6f
		78797a7b7c7d7e7f808182838485868788898a8b8c8d8e8f9091929394959697`
)

// writtenOut tells messages of all Kinds, and their bytes.
func writtenOut() []struct {
	m Message
	b []byte
} {
	zeros, ones := strings.Repeat("00", 128), strings.Repeat("ff", 128)
	full := api.Hash(bytes.Repeat([]byte{255}, 32))
	return []struct {
		m Message
		b []byte
	}{
		{Message{Kind: Hello, Version: 258}, []byte{1, 0, 0, 1, 2}}, // the chapter's example
		{Message{Kind: Hello}, []byte{1, 0, 0, 0, 0}},
		{Message{Kind: Hello, Version: 0x89ABCDEF}, []byte{1, 0x89, 0xAB, 0xCD, 0xEF}},
		{Message{Kind: Hello, Version: math.MaxUint32}, []byte{1, 255, 255, 255, 255}},
		{Message{Kind: Tip, State: unlike()}, written(unlikeBytes)},
		{Message{Kind: Tip, State: state.Genesis(running(7))}, written(firstBytes)},
		{Message{Kind: Leave}, []byte{3}},
		{shown(), written(shownBytes)},
		{Message{Kind: Show, Account: account.Account{Name: "a"}}, written("04 00 0e 0161000000000000000000000000" + zeros)},
		{
			Message{Kind: Show, Place: 15, Account: account.Account{Name: "zyxwvuts", Balance: math.MaxUint64, Nonce: math.MaxUint32}, Path: tree.Path{full, full, full, full}},
			written("04 0f 15 087a79787776757473ffffffffffffffffffffffff" + ones),
		},
	}
}

// P17.1, P17.2: the chapter's example, and other messages, there and back.
func TestWrittenOut(t *testing.T) {
	for i, c := range writtenOut() {
		if !Right(c.m) || !may(c.m) {
			t.Errorf("case %d isn't right", i)
		}
		if b, failed := Bytes(c.m); !bytes.Equal(b, c.b) || failed != api.OK {
			t.Errorf("case %d: %x, %d; want %x", i, b, failed, c.b)
		}
		if own := told(c.m); !bytes.Equal(own, c.b) {
			t.Errorf("case %d: the test's own words tell %x", i, own)
		}
		if m, failed := Read(c.b); m != c.m || failed != api.OK {
			t.Errorf("case %d: %+v, %d; want %+v", i, m, failed, c.m)
		}
		hold(t, c.m)
	}
}

// P17.1: the Kinds have the numbers that the chapter tells.
func TestKinds(t *testing.T) {
	if kinds := [4]int{Hello, Tip, Leave, Show}; kinds != [4]int{1, 2, 3, 4} {
		t.Errorf("%d", kinds)
	}
}

// P17.1: of each other byte as Kind no message may be, whatever it tells.
func TestOtherKinds(t *testing.T) {
	for kind := range 256 {
		if kind >= 1 && kind <= 4 {
			continue
		}
		refuse(t, Message{Kind: byte(kind)})
		for _, m := range samples() {
			m.Kind = byte(kind)
			refuse(t, m)
		}
	}
}

// P17.1: what one Kind tells, another one doesn't: each message as one of each other Kind.
func TestKindsTurned(t *testing.T) {
	right := 0
	for _, m := range samples() {
		for kind := range byte(6) {
			turned := m
			turned.Kind = kind
			hold(t, turned)
			if kind != m.Kind && Right(turned) {
				right++
			}
		}
	}
	// Only Leave and Hello of Version 0 tell the same: nothing else than zeros.
	if right != 2 {
		t.Errorf("%d are right as one of another Kind", right)
	}
}

// part is one of a message's smallest parts, and the field of the message that it is in.
type part struct {
	field string
	v     reflect.Value
}

// parts tells all of a message but its Kind, each part by itself.
func parts(m *Message) []part {
	var all []part
	var add func(field string, v reflect.Value)
	add = func(field string, v reflect.Value) {
		switch {
		case v.Kind() == reflect.Struct:
			for i := range v.NumField() {
				add(field, v.Field(i))
			}
		case v.Kind() == reflect.Array && v.Type() != reflect.TypeFor[api.Hash]():
			for i := range v.Len() {
				add(field, v.Index(i))
			}
		default:
			all = append(all, part{field, v})
		}
	}
	of := reflect.ValueOf(m).Elem()
	for i := range of.NumField() {
		if name := of.Type().Field(i).Name; name != "Kind" {
			add(name, of.Field(i))
		}
	}
	return all
}

// set gives a part, one at a time, values that aren't zero, and tells how many there are.
func (p part) set(do func()) int {
	var values []any
	switch p.v.Interface().(type) {
	case api.Hash:
		values = []any{api.Hash{1}, api.Hash{15: 128}, api.Hash{31: 1}, running(1)}
	case uint32:
		values = []any{uint32(1), uint32(256), uint32(1 << 31), uint32(math.MaxUint32)}
	case uint64:
		values = []any{uint64(1), uint64(1 << 32), uint64(1 << 63)}
	case int:
		values = []any{1, 15, 16, -1, 256, math.MinInt}
	case string:
		values = []any{"a", "A", "\x00", "abcdefghi"}
	}
	was := p.v.Interface()
	for _, x := range values {
		p.v.Set(reflect.ValueOf(x))
		do()
	}
	p.v.Set(reflect.ValueOf(was))
	return len(values)
}

// P17.1: one thing more that a Kind doesn't tell, each by itself, in each message.
func TestOneThingMore(t *testing.T) {
	tells := map[byte][]string{1: {"Version"}, 2: {"State"}, 3: nil, 4: {"Place", "Account", "Path"}}
	counted := map[byte]int{}
	for _, m := range samples() {
		for _, p := range parts(&m) {
			if slices.Contains(tells[m.Kind], p.field) {
				continue
			}
			p.set(func() { refuse(t, m) })
			counted[m.Kind]++
		}
		hold(t, m)
	}
	// A message has 31 parts: 1 of Version, 22 of State, and 8 of Place, Account and Path.
	if counted[1] != 8*30 || counted[2] != 4*9 || counted[3] != 31 || counted[4] != 33*23 {
		t.Errorf("%d", counted)
	}
}

// P17.1: each part that a Kind tells changed, each by itself: whether it may be, and its bytes.
func TestEachPart(t *testing.T) {
	for _, m := range samples() {
		for _, p := range parts(&m) {
			if n := p.set(func() { hold(t, m) }); n == 0 {
				t.Fatalf("%s: a part of another kind", p.field)
			}
		}
	}
}

// P17.1: of Tip, states that aren't right: each number beyond its bound.
func TestTipStates(t *testing.T) {
	for i, change := range []func(s *state.State){
		func(s *state.State) { *s = state.State{} },
		func(s *state.State) { *s = state.State{Length: 1} },
		func(s *state.State) { s.Length = 0 },
		func(s *state.State) { s.Length = s.Slot + 2 },
		func(s *state.State) { s.Slot += 3 },
		func(s *state.State) { s.Slot = 0 },
		func(s *state.State) { s.Count = s.Slot/24 + 1 },
		func(s *state.State) { s.Count = s.Length },
		func(s *state.State) { s.Win.Min = 13 },
		func(s *state.State) { s.Win.Ring.Last++ },
		func(s *state.State) { s.Win.Ring.Last -= 4 },
		func(s *state.State) { s.Win.Ring.Counts[0] = 0 },
		func(s *state.State) { s.Win.Ring.Counts[0] = 4 },
		func(s *state.State) { s.Win.Ring.Counts[3] = 4 },
		func(s *state.State) { s.Epochs.Next.Length = 0 },
		func(s *state.State) { s.Epochs.Next.Length = 15 },
	} {
		m := Message{Kind: Tip, State: unlike()}
		change(&m.State)
		if state.Right(m.State) {
			t.Errorf("case %d: the state is right", i)
		}
		refuse(t, m)
	}
	hold(t, Message{Kind: Tip, State: unlike()})
	refuse(t, Message{Kind: Tip})
}

// P17.1: of Show, each place, ones that there aren't, and such as go round to one in a byte.
func TestShowPlaces(t *testing.T) {
	m := shown()
	for m.Place = range 16 {
		hold(t, m)
		if b, failed := Bytes(m); failed != api.OK || b[1] != byte(m.Place) {
			t.Errorf("place %d: %x, %d", m.Place, b, failed)
		}
	}
	for _, place := range []int{-1, -2, -16, -256, -250, -255, 16, 17, 31, 32, 127, 128, 255, 256, 261, 512, 1<<16 + 5, 1 << 30, math.MaxInt32, math.MinInt32, math.MaxInt, math.MaxInt - 250, math.MinInt, math.MinInt + 5} {
		m.Place = place
		refuse(t, m)
	}
}

// P17.1: of Show, accounts that may not be, at each place.
func TestShowAccounts(t *testing.T) {
	for _, name := range []string{"", "A", "Ab", "aB", "a b", "ab1", "`", "{", "a\x00", "\x00", "ä", "a\xff", "abcdefghi", "ABCDEFGHI", strings.Repeat("a", 255), strings.Repeat("a", 257), strings.Repeat("a", 1<<16+1)} {
		m := shown()
		m.Account.Name = name
		for m.Place = range 16 {
			if Right(m) || may(m) {
				t.Errorf("place %d, %.20q: right", m.Place, name)
			}
			if b, failed := Bytes(m); b != nil || failed != api.ErrArg {
				t.Errorf("place %d, %.20q: %x, %d", m.Place, name, b, failed)
			}
		}
	}
	for n := 1; n <= 8; n++ {
		for _, name := range []string{"abcdefgh"[:n], "zzzzzzzz"[:n], "nmlkjihg"[:n]} {
			m := shown()
			m.Account.Name = name
			hold(t, m)
		}
	}
	refuse(t, Message{Kind: Show})
	refuse(t, Message{Kind: Show, Place: 3, Path: rising()})
	refuse(t, Message{Kind: Show, Account: account.Account{Balance: 1, Nonce: 1}})
}

// P17.1: each Kind's bytes, part by part, where the layers below tell their bytes.
func TestPartByPart(t *testing.T) {
	for _, m := range samples() {
		b, failed := Bytes(m)
		if failed != api.OK || len(b) < 1 || b[0] != m.Kind {
			t.Fatalf("%+v: %x, %d", m, b, failed)
		}
		var want []byte
		switch m.Kind {
		case Hello:
			want = []byte{byte(m.Version >> 24), byte(m.Version >> 16), byte(m.Version >> 8), byte(m.Version)}
		case Tip:
			want = state.Bytes(m.State)
		case Show:
			a, _ := account.Bytes(m.Account)
			want = slices.Concat([]byte{byte(m.Place), byte(len(a))}, a, proof.Bytes(m.Path))
		}
		if !bytes.Equal(b[1:], want) {
			t.Errorf("%+v: %x; want %x", m, b[1:], want)
		}
	}
}

// P17.1: each bit of Hello's Version, and each byte of Show's path, stands at its place.
func TestEachBit(t *testing.T) {
	for bit := range 32 {
		want := make([]byte, 5)
		want[0], want[4-bit/8] = 1, 1<<(bit%8)
		if b, failed := Bytes(Message{Kind: Hello, Version: 1 << bit}); !bytes.Equal(b, want) || failed != api.OK {
			t.Errorf("bit %d: %x, %d; want %x", bit, b, failed, want)
		}
	}
	for at := range 128 {
		m := Message{Kind: Show, Place: 1, Account: account.Account{Name: "q"}}
		want := append(written("04 01 0e 0171000000000000000000000000"), make([]byte, 128)...)
		m.Path[at/32][at%32] = 77
		want[17+at] = 77
		if b, failed := Bytes(m); !bytes.Equal(b, want) || failed != api.OK {
			t.Errorf("byte %d: %x, %d; want %x", at, b, failed, want)
		}
	}
}

// P17.1: messages that may be are never longer than MostBody.
func TestMost(t *testing.T) {
	sizes := map[byte]int{}
	for _, m := range samples() {
		b, _ := Bytes(m)
		sizes[m.Kind] = max(sizes[m.Kind], len(b))
	}
	if sizes[1] != 5 || sizes[2] != 397 || sizes[3] != 1 || sizes[4] != 1+1+1+21+128 {
		t.Errorf("%d", sizes)
	}
}

// P17.1, R3, R4: what was answered is changed, also behind its end, and the same is answered
// again; it doesn't change when the message does.
func TestBytesApart(t *testing.T) {
	for _, m := range samples() {
		want := told(m)
		first, _ := Bytes(m)
		second, _ := Bytes(m)
		for at := range first[:cap(first)] {
			first[:cap(first)][at] ^= 255
		}
		if !bytes.Equal(second, want) {
			t.Errorf("%+v: %x; want %x", m, second, want)
		}
		hold(t, m)
		for _, p := range parts(&m) {
			p.v.SetZero()
		}
		if !bytes.Equal(second, want) {
			t.Errorf("%x: changed with its message to %x", want, second)
		}
	}
}

// P17.1, R5: what was asked ahead changes no answer.
func TestAnyOrder(t *testing.T) {
	r := rand.New(rand.NewSource(171))
	all := samples()
	all = append(all, Message{}, Message{Kind: 5}, Message{Kind: Tip}, Message{Kind: Show, Place: 16})
	for range 3 {
		r.Shuffle(len(all), func(i, j int) { all[i], all[j] = all[j], all[i] })
		for _, m := range all {
			hold(t, m)
		}
	}
}
