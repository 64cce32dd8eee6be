package message

import (
	"bytes"
	"math"
	"math/rand"
	"slices"
	"testing"

	"almagest/account"
	"almagest/api"
	"almagest/grow"
	"almagest/state"
)

// digest tells a digest of chance.
func digest(r *rand.Rand) api.Hash {
	var h api.Hash
	r.Read(h[:])
	return h
}

// grown tells the state of a chain of chance.
func grown(r *rand.Rand) state.State {
	s := state.Genesis(digest(r))
	for range r.Intn(8) {
		b := grow.Block{Slot: s.Slot + 1 + r.Uint32()>>(8+r.Intn(24)), Ledger: digest(r), Draw: digest(r)}
		if child, failed := grow.Child(s, b); failed == api.OK {
			s = child
		}
	}
	return s
}

// someone tells an account of chance that may be.
func someone(r *rand.Rand) account.Account {
	name := make([]byte, 1+r.Intn(8))
	for at := range name {
		name[at] = 'a' + byte(r.Intn(26))
	}
	return account.Account{Name: string(name), Balance: r.Uint64() >> r.Intn(64), Nonce: r.Uint32() >> r.Intn(32)}
}

// chance tells a message of chance that may be.
func chance(r *rand.Rand) Message {
	m := Message{Kind: byte(1 + r.Intn(4))}
	switch m.Kind {
	case 1:
		m.Version = r.Uint32() >> r.Intn(32)
	case 2:
		m.State = grown(r)
	case 4:
		m.Place, m.Account = r.Intn(16), someone(r)
		for height := range m.Path {
			m.Path[height] = digest(r)
		}
	}
	return m
}

// P17.3: messages of chance come back from their bytes; unlike ones have unlike bytes.
func TestMessagesBack(t *testing.T) {
	r := rand.New(rand.NewSource(173))
	known := map[string]Message{}
	for range 20000 {
		m := chance(r)
		hold(t, m)
		b, failed := Bytes(m)
		if failed != api.OK {
			t.Fatalf("%+v: %d", m, failed)
		}
		if got, e := Read(b); got != m || e != api.OK {
			t.Fatalf("%x: %+v, %d; want %+v", b, got, e, m)
		}
		if other, is := known[string(b)]; is && other != m {
			t.Errorf("%+v and %+v have the bytes %x", m, other, b)
		}
		known[string(b)] = m
	}
	if len(known) < 12000 {
		t.Errorf("only %d unlike messages", len(known))
	}
}

// P17.1, P17.3: messages of chance, with one or two parts changed: whether they may be, and
// back if they may.
func TestChangedMessages(t *testing.T) {
	r := rand.New(rand.NewSource(174))
	right := 0
	const all = 20000
	for range all {
		m := chance(r)
		other := chance(r)
		from, to := parts(&other), parts(&m)
		for range 1 + r.Intn(2) {
			at := r.Intn(len(to))
			to[at].v.Set(from[at].v)
		}
		if r.Intn(8) == 0 {
			m.Kind = byte(r.Intn(6))
		}
		hold(t, m)
		b, failed := Bytes(m)
		if failed != api.OK {
			continue
		}
		right++
		if got, e := Read(b); got != m || e != api.OK {
			t.Fatalf("%x: %+v, %d; want %+v", b, got, e, m)
		}
	}
	if right < all/10 || right > all*9/10 {
		t.Errorf("%d of %d are right", right, all)
	}
}

// holdBack holds that bytes that are read come back from their message; it tells whether
// they are.
func holdBack(t *testing.T, b []byte) bool {
	t.Helper()
	holdRead(t, b)
	m, failed := Read(b)
	if failed != api.OK {
		return false
	}
	if again, e := Bytes(m); !bytes.Equal(again, b) || e != api.OK || !Right(m) {
		t.Errorf("%x: back %x, %d, of %+v", b, again, e, m)
	}
	return true
}

// P17.3: bytes of chance come back from their messages, if they are read: messages' bytes
// with some changed, cut, or put in.
func TestBytesBack(t *testing.T) {
	r := rand.New(rand.NewSource(175))
	right := 0
	const all = 60000
	for range all {
		b := told(chance(r))
		for range r.Intn(3) {
			at := r.Intn(len(b))
			switch r.Intn(5) {
			case 0, 1:
				b[at] ^= 1 << r.Intn(8)
			case 2:
				b[at] = byte(r.Uint32())
			case 3:
				b = append(b[:at], b[at+r.Intn(2):]...)
			default:
				b = slices.Insert(b, at, byte(r.Intn(17)))
			}
			if len(b) == 0 {
				break
			}
		}
		if holdBack(t, b) {
			right++
		}
	}
	if right < all/4 || right > all*9/10 {
		t.Errorf("%d of %d are right", right, all)
	}
}

// P17.3: rows of chance, of each length, with each Kind ahead; the text of Show told so that
// the row is as long as it should be.
func TestRowsBack(t *testing.T) {
	r := rand.New(rand.NewSource(176))
	right := map[byte]int{}
	for range 20 {
		for size := range 620 {
			b := make([]byte, size)
			r.Read(b)
			if size > 0 {
				b[0] = byte(r.Intn(6))
			}
			if size > 130 {
				b[1], b[2] = byte(r.Intn(18)), byte(size-131)
			}
			if holdBack(t, b) {
				right[b[0]]++
			}
		}
		b := make([]byte, 5)
		r.Read(b)
		b[0] = 1
		if !holdBack(t, b) {
			t.Errorf("%x isn't read", b)
		}
	}
	if right[1] == 0 || right[3] == 0 || right[0]+right[5] > 0 {
		t.Errorf("%d", right)
	}
}

// P17.3: messages at the edges of what may be, there and back.
func TestEdgesBack(t *testing.T) {
	var all []Message
	for _, n := range []uint32{0, 1, 255, 256, 1<<16 - 1, 1 << 16, 1<<31 - 1, 1 << 31, math.MaxUint32} {
		all = append(all, Message{Kind: Hello, Version: n})
		s, failed := grow.Child(state.Genesis(running(1)), grow.Block{Slot: max(n, 1), Ledger: running(2), Draw: running(3)})
		if failed != api.OK {
			t.Fatal(n, failed)
		}
		all = append(all, Message{Kind: Tip, State: s})
		for _, name := range []string{"a", "z", "aaaaaaaa", "zzzzzzzz"} {
			for _, place := range []int{0, 7, 8, 15} {
				all = append(all, Message{Kind: Show, Place: place, Account: account.Account{Name: name, Balance: uint64(n) << 32, Nonce: n}})
			}
		}
	}
	for _, m := range append(all, samples()...) {
		hold(t, m)
		b, _ := Bytes(m)
		if got, failed := Read(b); got != m || failed != api.OK || !holdBack(t, b) {
			t.Errorf("%x: %+v, %d; want %+v", b, got, failed, m)
		}
	}
}
