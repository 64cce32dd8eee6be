package message

import (
	"bytes"
	"fmt"
	"slices"
	"testing"

	"almagest/account"
	"almagest/api"
	"almagest/state"
)

// heard tells by the chapter's words what is read of bytes.
func heard(b []byte) (Message, api.Errno) {
	if len(b) > 600 {
		return Message{}, api.ErrLong
	}
	if len(b) == 0 {
		return Message{}, api.ErrShort
	}
	m, behind := Message{Kind: b[0]}, b[1:]
	var failed api.Errno
	switch b[0] {
	case 1:
		failed = many(behind, 4)
		for _, n := range behind {
			m.Version = m.Version*256 + uint32(n)
		}
	case 2:
		m.State, failed = state.Read(behind)
	case 3:
		failed = many(behind, 0)
	case 4:
		failed = m.heardShow(behind)
	default:
		failed = api.ErrForm
	}
	if failed != api.OK {
		return Message{}, failed
	}
	return m, api.OK
}

// heardShow does so for what stands behind Show.
func (m *Message) heardShow(b []byte) api.Errno {
	if len(b) < 2 {
		return api.ErrShort
	}
	end := 2 + int(b[1])
	if failed := many(b, end+128); failed != api.OK {
		return failed
	}
	var failed api.Errno
	if m.Account, failed = account.Read(b[2:end]); failed != api.OK {
		return failed
	}
	if m.Place = int(b[0]); m.Place > 15 {
		return api.ErrArg
	}
	for at := range 128 {
		m.Path[at/32][at%32] = b[end+at]
	}
	return api.OK
}

// many tells whether bytes are as many as they should be.
func many(b []byte, should int) api.Errno {
	if len(b) < should {
		return api.ErrShort
	}
	if len(b) > should {
		return api.ErrLong
	}
	return api.OK
}

// holdRead holds what is read of bytes against the chapter's words, and that they stay; it
// tells the error.
func holdRead(t *testing.T, b []byte) api.Errno {
	t.Helper()
	want, failed := heard(b)
	before := slices.Clone(b)
	if m, e := Read(b); m != want || e != failed {
		t.Errorf("%d bytes %x: %+v, %d; want %+v, %d", len(b), b, m, e, want, failed)
	}
	if !bytes.Equal(b, before) {
		t.Errorf("%x: the bytes changed to %x", before, b)
	}
	return failed
}

// wrong holds that bytes are of no message, and the error.
func wrong(t *testing.T, b []byte, want api.Errno) {
	t.Helper()
	if m, failed := Read(b); m != (Message{}) || failed != want {
		t.Errorf("%d bytes %x: %+v, %d; want %d", len(b), b, m, failed, want)
	}
	if failed := holdRead(t, b); failed != want {
		t.Errorf("%d bytes %x: the test's own words tell %d; want %d", len(b), b, failed, want)
	}
}

// join tells some bytes, one behind the other.
func join(parts ...[]byte) []byte { return slices.Concat(parts...) }

// times tells one byte, so many times.
func times(n int, one byte) []byte { return bytes.Repeat([]byte{one}, n) }

// P17.2: of no bytes, be they none or an empty list.
func TestReadNone(t *testing.T) {
	wrong(t, nil, api.ErrShort)
	wrong(t, []byte{}, api.ErrShort)
	wrong(t, told(shown())[:0], api.ErrShort)
}

// P17.2: of a Kind that is none, with and without bytes behind, and of what a Kind tells.
func TestReadOtherKinds(t *testing.T) {
	for kind := range 256 {
		if kind >= 1 && kind <= 4 {
			continue
		}
		one := []byte{byte(kind)}
		for _, n := range []int{0, 1, 2, 4, 5, 128, 396, 397, 598, 599} {
			wrong(t, join(one, times(n, 0)), api.ErrForm)
			wrong(t, join(one, times(n, 255)), api.ErrForm)
		}
		for _, m := range samples() {
			wrong(t, join(one, told(m)[1:]), api.ErrForm)
			wrong(t, join(one, told(m)), api.ErrForm)
		}
	}
}

// P17.2: what Bytes tells is read, cut at each length, and with bytes behind, up to MostBody
// and beyond.
func TestReadCut(t *testing.T) {
	for _, m := range samples() {
		b := told(m)
		if got, failed := Read(b); got != m || failed != api.OK {
			t.Fatalf("%x: %+v, %d; want %+v", b, got, failed, m)
		}
		for size := range len(b) {
			wrong(t, b[:size], api.ErrShort) // with what is cut behind it, in the same memory
			wrong(t, slices.Clip(slices.Clone(b[:size])), api.ErrShort)
		}
		for n := range 256 {
			wrong(t, append(b[:len(b):len(b)], byte(n)), api.ErrLong)
		}
		for _, one := range []byte{0, 1, 255} {
			for size := len(b) + 2; size <= 610; size++ {
				wrong(t, join(b, times(size-len(b), one)), api.ErrLong)
			}
		}
		wrong(t, join(b, b), api.ErrLong)
	}
}

// P17.2: just MostBody bytes, one more, and many more, of each Kind and of each that is none.
func TestReadMost(t *testing.T) {
	for kind := range 256 {
		full := api.ErrForm
		if kind >= 1 && kind <= 4 {
			full = api.ErrLong
		}
		for _, one := range []byte{0, 1, 128, 255} {
			b := append([]byte{byte(kind)}, times(1<<17, one)...)
			wrong(t, b[:599], full)
			wrong(t, b[:600], full)
			for _, size := range []int{601, 602, 1000, 1200} {
				wrong(t, b[:size], api.ErrLong)
			}
			for _, size := range []int{1<<16 - 1, 1 << 16, 1<<16 + 1, 1<<16 + 5, 1<<16 + 600, 1 << 17} {
				if m, failed := Read(b[:size]); m != (Message{}) || failed != api.ErrLong {
					t.Errorf("Kind %d, %d bytes: %d", kind, size, failed)
				}
			}
		}
	}
}

// P17.2: of Hello and Leave what goes wrong in reading.
func TestReadHelloLeave(t *testing.T) {
	for n := range 600 {
		for _, one := range []byte{0, 3, 255} {
			hello, leave := api.OK, api.ErrLong
			if n < 4 {
				hello = api.ErrShort
			} else if n > 4 {
				hello = api.ErrLong
			}
			if n == 0 {
				leave = api.OK
			}
			b := times(n, one)
			if failed := holdRead(t, join([]byte{1}, b)); failed != hello {
				t.Errorf("Hello, %d bytes: %d; want %d", n, failed, hello)
			}
			if failed := holdRead(t, join([]byte{3}, b)); failed != leave {
				t.Errorf("Leave, %d bytes: %d; want %d", n, failed, leave)
			}
		}
	}
	for bit := range 32 {
		b := make([]byte, 5)
		b[0], b[4-bit/8] = 1, 1<<(bit%8)
		if m, failed := Read(b); m != (Message{Kind: Hello, Version: 1 << bit}) || failed != api.OK {
			t.Errorf("%x: %+v, %d", b, m, failed)
		}
	}
}

// P17.2: of Tip the error of state.Read: bytes of states that may not be, fewer and more.
func TestReadTip(t *testing.T) {
	for n := range 600 {
		want := api.ErrForm
		if n < 396 {
			want = api.ErrShort
		} else if n > 396 {
			want = api.ErrLong
		}
		wrong(t, join([]byte{2}, times(n, 0)), want)
		wrong(t, join([]byte{2}, times(n, 255)), want)
	}
	right, off := 0, 0
	for _, s := range []state.State{unlike(), state.Genesis(running(7))} {
		b := told(Message{Kind: Tip, State: s})
		for at := 1; at < len(b); at++ {
			for bit := range 8 {
				b[at] ^= 1 << bit
				switch failed := holdRead(t, b); failed {
				case api.OK:
					right++
				case api.ErrForm:
					off++
					wrong(t, b[:396], api.ErrShort)
					wrong(t, join(b, []byte{0}), api.ErrLong)
				default:
					t.Errorf("byte %d, bit %d: %d", at, bit, failed)
				}
				b[at] ^= 1 << bit
			}
		}
	}
	// 11 digests and Now's Length are of no account to whether a state may be.
	if right < 2*(11*256+32) || off < 300 {
		t.Errorf("%d are right, %d aren't", right, off)
	}
}

// framed tells bytes of Show that have a place, a text, and shown's path.
func framed(place byte, text []byte) []byte {
	return join([]byte{4, place, byte(len(text))}, text, told(shown())[18:])
}

// owned tells the bytes of shown's account.
func owned() []byte { return written("026162000000000000010200000003") }

// P17.2: of Show each byte that there is as place.
func TestReadShowPlaces(t *testing.T) {
	for place := range 256 {
		b := framed(byte(place), owned())
		if place > 15 {
			wrong(t, b, api.ErrArg)
			continue
		}
		want := shown()
		want.Place = place
		if m, failed := Read(b); m != want || failed != api.OK {
			t.Errorf("place %d: %+v, %d", place, m, failed)
		}
		holdRead(t, b)
	}
}

// P17.2: of Show a text of each length from none to 255: the account's bytes cut, and with
// bytes behind; zeros; and others.
func TestReadShowTexts(t *testing.T) {
	for n := range 256 {
		cut := append(owned(), times(255, 7)...)[:n]
		want := api.OK
		if n < 15 {
			want = api.ErrShort
		} else if n > 15 {
			want = api.ErrLong
		}
		if failed := holdRead(t, framed(10, cut)); failed != want {
			t.Errorf("%d bytes: %d; want %d", n, failed, want)
		}
		nameless := api.ErrForm
		if n < 13 {
			nameless = api.ErrShort
		} else if n > 13 {
			nameless = api.ErrLong
		}
		wrong(t, framed(10, times(n, 0)), nameless)
		most := api.ErrLong
		if n < 1 {
			most = api.ErrShort
		}
		wrong(t, framed(10, times(n, 255)), most)
		wrong(t, framed(10, times(n, 9)), most)
	}
}

// P17.2: of Show the error of account.Read: accounts of all lengths of Name, and such as may
// not be.
func TestReadShowAccounts(t *testing.T) {
	tail := times(12, 1)
	for size := range 12 {
		for _, letter := range []byte("aAz`{m\x00\xff") {
			b := framed(10, join([]byte{byte(size)}, times(size, letter), tail))
			may := letter == 'a' || letter == 'z' || letter == 'm'
			switch {
			case size > 8:
				wrong(t, b, api.ErrLong)
			case size < 1 || !may:
				wrong(t, b, api.ErrForm)
			default:
				if failed := holdRead(t, b); failed != api.OK {
					t.Errorf("%x: %d", b, failed)
				}
			}
		}
	}
}

// P17.2: of Show each byte that tells how long the text is, with as many bytes as the text of
// shown has.
func TestReadShowLengths(t *testing.T) {
	b := told(shown())
	for n := range 256 {
		b[2] = byte(n)
		want := api.OK
		if n < 15 {
			want = api.ErrLong // what the text leaves stands behind the path
		} else if n > 15 {
			want = api.ErrShort
		}
		if failed := holdRead(t, b); failed != want {
			t.Errorf("%d: %d; want %d", n, failed, want)
		}
	}
}

// P17.2: of Show several things wrong at once: the first one, in the order that is told.
func TestReadShowOrder(t *testing.T) {
	texts := map[api.Errno][][]byte{
		api.OK:       {owned(), written("0161ffffffffffffffffffffffff")},
		api.ErrShort: {nil, owned()[:14], owned()[:1], written("08616263"), times(12, 0)},
		api.ErrLong:  {join(owned(), []byte{0}), times(200, 9), times(255, 255), written("09616263646566676869000000000000010200000003"), written("09")},
		api.ErrForm:  {times(13, 0), written("0141ffffffffffffffffffffffff"), written("0261ff000000000000000000000000")},
	}
	seen := map[string]bool{}
	for owner, all := range texts {
		for _, text := range all {
			for _, place := range []byte{0, 15, 16, 17, 255} {
				b := framed(place, text)
				want := owner
				if owner == api.OK && place > 15 {
					want = api.ErrArg
				}
				if failed := holdRead(t, b); failed != want {
					t.Errorf("%x: %d; want %d", b, failed, want)
				}
				seen[fmt.Sprint(owner, place > 15)] = true
				for size := 1; size < len(b); size++ {
					wrong(t, b[:size], api.ErrShort)
				}
				for _, more := range []int{1, 2, 32, 128, 600 - len(b), 601 - len(b)} {
					wrong(t, join(b, times(more, 0)), api.ErrLong)
				}
				b[0] = 5
				wrong(t, b, api.ErrForm)
				wrong(t, join(b, times(600-len(b), 0)), api.ErrForm)
				wrong(t, join(b, times(601-len(b), 0)), api.ErrLong)
			}
		}
	}
	if len(seen) != 8 {
		t.Errorf("%d of the ways to be wrong", len(seen))
	}
}

// P17.2: of each Kind's bytes each bit turned, and each byte taken out, or told twice.
func TestReadOneByte(t *testing.T) {
	for _, c := range writtenOut() {
		for at := range c.b {
			for bit := range 8 {
				b := slices.Clone(c.b)
				b[at] ^= 1 << bit
				holdRead(t, b)
			}
			holdRead(t, slices.Delete(slices.Clone(c.b), at, at+1))
			holdRead(t, slices.Insert(slices.Clone(c.b), at, c.b[at]))
		}
	}
}

// P17.2: all rows of up to two bytes.
func TestReadShortRows(t *testing.T) {
	for a := range 256 {
		holdRead(t, []byte{byte(a)})
		for b := range 256 {
			holdRead(t, []byte{byte(a), byte(b)})
		}
	}
}

// P17.2, R3: what was read stays when the bytes are changed.
func TestReadApart(t *testing.T) {
	for _, want := range samples() {
		b := told(want)
		m, failed := Read(b)
		clear(b)
		if m != want || failed != api.OK {
			t.Errorf("%+v, %d; want %+v", m, failed, want)
		}
		for at := range b {
			b[at] = 'q'
		}
		if m != want {
			t.Errorf("%+v; want %+v", m, want)
		}
	}
}

// P17.2, R4, R5: what was read ahead, or went wrong, changes no answer.
func TestReadAgain(t *testing.T) {
	all := samples()
	for i, first := range all {
		for _, second := range all[i:] {
			one, _ := Read(told(first))
			Read(told(second)[:len(told(second))-1])
			other, _ := Read(told(second))
			again, _ := Read(told(first))
			if one != first || other != second || again != first {
				t.Fatalf("%+v, %+v: %+v, %+v, %+v", first, second, one, other, again)
			}
		}
	}
}
