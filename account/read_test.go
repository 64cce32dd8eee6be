package account

import (
	"bytes"
	"encoding/binary"
	"math"
	"math/rand"
	"slices"
	"strings"
	"testing"

	"almagest/api"
)

// got tells by the chapter's words what Read answers.
func got(b []byte) (Account, api.Errno) {
	if len(b) < 1 {
		return Account{}, api.ErrShort
	}
	size := int(b[0])
	if size > 8 {
		return Account{}, api.ErrLong
	}
	if len(b) < 1+size+12 {
		return Account{}, api.ErrShort
	}
	if len(b) > 1+size+12 {
		return Account{}, api.ErrLong
	}
	name := string(b[1 : 1+size])
	if !may(name) {
		return Account{}, api.ErrForm
	}
	return Account{name, binary.BigEndian.Uint64(b[1+size:]), binary.BigEndian.Uint32(b[1+size+8:])}, api.OK
}

// holdRead holds what is told of bytes against the chapter's words, and that they stay;
// it tells the error.
func holdRead(t *testing.T, b []byte) api.Errno {
	t.Helper()
	want, failed := got(b)
	before := slices.Clone(b)
	if a, e := Read(b); a != want || e != failed {
		t.Errorf("%x: %+v, %d; want %+v, %d", b, a, e, want, failed)
	}
	if !bytes.Equal(b, before) {
		t.Errorf("%x: the bytes changed to %x", before, b)
	}
	return failed
}

// joined tells some bytes, one behind the other.
func joined(parts ...string) []byte { return []byte(strings.Join(parts, "")) }

const (
	tail  = "\x01\x02\x03\x04\x05\x06\x07\x08\x09\x0a\x0b\x0c" // of Balance and Nonce
	zeros = "\x00\x00\x00\x00\x00\x00\x00\x00\x00\x00\x00\x00"
)

// P14.2: cases written out; of several things that go wrong the first one is told.
func TestReadWrittenOut(t *testing.T) {
	for i, c := range []struct {
		b      []byte
		want   Account
		failed api.Errno
	}{
		{joined("\x02ab\x00\x00\x00\x00\x00\x00\x01\x02\x00\x00\x00\x03"), Account{"ab", 258, 3}, api.OK},
		{joined("\x01a", zeros), Account{"a", 0, 0}, api.OK},
		{joined("\x08abcdefgh", tail), Account{"abcdefgh", 0x0102030405060708, 0x090a0b0c}, api.OK},
		{joined("\x01z", strings.Repeat("\xff", 12)), Account{"z", math.MaxUint64, math.MaxUint32}, api.OK},

		{nil, Account{}, api.ErrShort},
		{[]byte{}, Account{}, api.ErrShort},
		{joined("\x00"), Account{}, api.ErrShort},
		{joined("\x01"), Account{}, api.ErrShort},
		{joined("\x08"), Account{}, api.ErrShort},
		{joined("\x08abcdefg"), Account{}, api.ErrShort},
		{joined("\x02ab", tail[1:]), Account{}, api.ErrShort},
		{joined("\x02ab", tail[:8]), Account{}, api.ErrShort},
		{joined("\x03ab", tail), Account{}, api.ErrShort}, // the tail's first byte is taken for a letter

		{joined("\x09"), Account{}, api.ErrLong}, // too long a text, ahead of too few bytes
		{joined("\xff"), Account{}, api.ErrLong},
		{joined("\x09abcdefgh"), Account{}, api.ErrLong},
		{joined("\x09abcdefghi", tail), Account{}, api.ErrLong},
		{joined("\x09abcdefghi", tail, "a"), Account{}, api.ErrLong},
		{joined("\x09ABCDEFGHI", tail), Account{}, api.ErrLong}, // ahead of the Name that may not be
		{joined("\x02ab", tail, "\x00"), Account{}, api.ErrLong},
		{joined("\x01ab", tail), Account{}, api.ErrLong},
		{joined("\x01a", tail, "\x01a", tail), Account{}, api.ErrLong},

		{joined("\x00", tail), Account{}, api.ErrForm},
		{joined("\x01A", tail), Account{}, api.ErrForm},
		{joined("\x01`", tail), Account{}, api.ErrForm},
		{joined("\x01{", tail), Account{}, api.ErrForm},
		{joined("\x02a ", tail), Account{}, api.ErrForm},
		{joined("\x031ab", tail), Account{}, api.ErrForm},
		{joined("\x03a\xc3\xa9", tail), Account{}, api.ErrForm},
		{joined("\x02\xffa", tail), Account{}, api.ErrForm},
		{joined("\x08abcdefg\x00", tail), Account{}, api.ErrForm},
		{joined("\x02\xc1\xa1", zeros), Account{}, api.ErrForm}, // an a in too many bytes

		{joined("\x00", tail[1:]), Account{}, api.ErrShort}, // ahead of the Name that may not be
		{joined("\x01A", tail[1:]), Account{}, api.ErrShort},
		{joined("\x00", tail, "\x00"), Account{}, api.ErrLong},
		{joined("\x01A", tail, "\x00"), Account{}, api.ErrLong},
	} {
		if a, failed := Read(c.b); a != c.want || failed != c.failed {
			t.Errorf("case %d: %+v, %d; want %+v, %d", i, a, failed, c.want, c.failed)
		}
		holdRead(t, c.b)
	}
}

// P14.2, P14.3: accounts of each length of Name come back from their bytes; cut anywhere,
// or with any byte behind, the bytes go wrong.
func TestReadCut(t *testing.T) {
	for n := 1; n <= 8; n++ {
		for _, a := range []Account{{"zahxqpwc"[:n], 0, 0}, {"aaaaaaaa"[:n], 1 << 63, 1}, {"zzzzzzzz"[:n], math.MaxUint64, math.MaxUint32}} {
			b, _ := Bytes(a)
			if back, failed := Read(b); back != a || failed != api.OK {
				t.Errorf("%v came back as %v, %d", a, back, failed)
			}
			for at := range b {
				if back, failed := Read(b[:at]); back != (Account{}) || failed != api.ErrShort {
					t.Errorf("%v cut at %d: %v, %d", a, at, back, failed)
				}
				// Without the first byte another one tells how many there are; without any other
				// one the bytes behind it move up.
				holdRead(t, slices.Delete(slices.Clone(b), at, at+1))
			}
			for behind := range 256 {
				if back, failed := Read(append(slices.Clone(b), byte(behind))); back != (Account{}) || failed != api.ErrLong {
					t.Errorf("%v and %d: %v, %d", a, behind, back, failed)
				}
			}
			for _, more := range []int{2, 12, 255, 256, 1 << 16} {
				if back, failed := Read(append(slices.Clone(b), make([]byte, more)...)); back != (Account{}) || failed != api.ErrLong {
					t.Errorf("%v and %d bytes: %v, %d", a, more, back, failed)
				}
			}
		}
	}
}

// P14.2: each byte as the one that tells how many the Name has, with each number of bytes
// behind it, up to more than it can tell, of Names that may be and ones that may not.
func TestReadSizes(t *testing.T) {
	met := map[api.Errno]int{}
	for _, fill := range []string{"a", "z", "A", "\x00", "\xff"} {
		row := []byte(strings.Repeat(fill, 280))
		for size := range 256 {
			row[0] = byte(size)
			for n := range 24 {
				met[holdRead(t, row[:n])]++
			}
			for _, n := range []int{1 + size, size + 12, 1 + size + 12, 1 + size + 13, 255, 256, 257, 268, 280} {
				met[holdRead(t, row[:min(n, len(row))])]++
			}
		}
	}
	for _, failed := range []api.Errno{api.OK, api.ErrForm, api.ErrShort, api.ErrLong} {
		if met[failed] < 16 {
			t.Errorf("%d is rare: %v", failed, met)
		}
	}
}

// P14.2: each byte at each place of Names of each length.
func TestReadNames(t *testing.T) {
	for n := range 9 {
		b := joined(string([]byte{byte(n)}), "qrstuvwx"[:n], tail)
		for at := 1; at <= n; at++ {
			for other := range 256 {
				changed := slices.Clone(b)
				changed[at] = byte(other)
				want := api.ErrForm
				if other >= 97 && other <= 122 {
					want = api.OK
				}
				if failed := holdRead(t, changed); failed != want {
					t.Errorf("%x: the words ask for %d", changed, failed)
				}
				holdRead(t, changed[:len(changed)-1])
				holdRead(t, append(changed, 'a'))
			}
		}
		holdRead(t, b)
	}
}

// P14.2, R3: bytes that are changed afterwards don't change what was answered, and the
// bytes behind those that were handed in stay.
func TestReadApart(t *testing.T) {
	room := bytes.Repeat([]byte{0xEE}, 40)
	b := room[5:26]
	copy(b, joined("\x08almagest", tail))
	before := slices.Clone(room)
	a, failed := Read(b)
	if failed != api.OK || !bytes.Equal(room, before) {
		t.Fatalf("%v, %d, %x", a, failed, room)
	}
	for i := range room {
		room[i] = 'b'
	}
	if want := (Account{"almagest", 0x0102030405060708, 0x090a0b0c}); a != want {
		t.Errorf("%v; want %v", a, want)
	}
	back, _ := Bytes(a)
	if !bytes.Equal(back, before[5:26]) {
		t.Errorf("%x", back)
	}
}

// P14.2, R4: what was asked ahead of it changes no answer.
func TestReadAgain(t *testing.T) {
	rows := [][]byte{
		joined("\x02ab", tail), nil, joined("\x09"), joined("\x01A", tail), joined("\x01a", zeros), joined("\x01a", zeros, "a"),
	}
	for _, ahead := range rows {
		for _, b := range rows {
			holdRead(t, ahead)
			holdRead(t, b)
			holdRead(t, b)
		}
	}
}

// P14.3: unlike accounts have unlike bytes and digests, and come back as they are: all of
// some Names that begin alike, or whose letters could be numbers' bytes, with some numbers.
func TestUnlike(t *testing.T) {
	byBytes, byDigest := map[string]Account{}, map[api.Hash]Account{None(): {}}
	count := 0
	for _, name := range []string{"a", "b", "z", "aa", "ab", "ba", "aaa", "aab", "aaaa", "aaaaaaaa", "aaaaaaab", "baaaaaaa", "zzzzzzzz", "empty", "account"} {
		for _, balance := range []uint64{0, 1, 97, 256, 97 << 56, 0x6161616161616161, 1 << 32, math.MaxUint64} {
			for _, nonce := range []uint32{0, 1, 97, 256, 0x61616161, math.MaxUint32} {
				a := Account{name, balance, nonce}
				b, _ := Bytes(a)
				h, _ := Hash(a)
				if other, is := byBytes[string(b)]; is {
					t.Errorf("%v and %v have the bytes %x", a, other, b)
				}
				if other, is := byDigest[h]; is {
					t.Errorf("%v and %v have the digest %x", a, other, h)
				}
				if back, failed := Read(b); back != a || failed != api.OK {
					t.Errorf("%v came back as %v, %d", a, back, failed)
				}
				byBytes[string(b)], byDigest[h] = a, a
				count++
			}
		}
	}
	if len(byBytes) != count || len(byDigest) != count+1 {
		t.Errorf("%d accounts, %d bytes, %d digests", count, len(byBytes), len(byDigest))
	}
}

// P14.3: each bit of an account's bytes turned: another account, or none.
func TestReadBits(t *testing.T) {
	met := map[api.Errno]int{}
	for n := 1; n <= 8; n++ {
		a := Account{"pqmcbnld"[:n], 0x0102030405060708, 0x090a0b0c}
		b, _ := Bytes(a)
		for bit := range 8 * len(b) {
			turned := slices.Clone(b)
			turned[bit/8] ^= 1 << (bit % 8)
			met[holdRead(t, turned)]++
			back, failed := Read(turned)
			if back == a {
				t.Errorf("%v, bit %d: the same account", a, bit)
			}
			if written, _ := Bytes(back); failed == api.OK && !bytes.Equal(written, turned) {
				t.Errorf("%v, bit %d: %x was written, %x read", a, bit, written, turned)
			}
		}
	}
	for _, failed := range []api.Errno{api.OK, api.ErrForm, api.ErrShort, api.ErrLong} {
		if met[failed] < 8 {
			t.Errorf("%d is rare: %v", failed, met)
		}
	}
}

// P14.2, P14.3: accounts of chance come back; of bytes of chance what is read is written
// as it was.
func TestReadChance(t *testing.T) {
	r := rand.New(rand.NewSource(143))
	met := map[api.Errno]int{}
	for range 30000 {
		a := chance(r)
		b, _ := Bytes(a)
		if back, failed := Read(b); back != a || failed != api.OK {
			t.Errorf("%v came back as %v, %d", a, back, failed)
		}
		for range r.Intn(3) {
			b[r.Intn(len(b))] = byte(r.Intn(1 << (1 + r.Intn(8))))
		}
		switch r.Intn(6) {
		case 0:
			b = b[:r.Intn(len(b)+1)]
		case 1:
			b = append(b, byte(r.Intn(256)))
		}
		met[holdRead(t, b)]++
		back, failed := Read(b)
		if written, wrong := Bytes(back); failed == api.OK && (!bytes.Equal(written, b) || wrong != api.OK) {
			t.Errorf("%x was written as %x, %d", b, written, wrong)
		}
	}
	for _, failed := range []api.Errno{api.OK, api.ErrForm, api.ErrShort, api.ErrLong} {
		if met[failed] < 1000 {
			t.Errorf("%d is rare: %v", failed, met)
		}
	}
}

// P14.2, R1: many bytes, of which none but the first ones are looked at.
func TestReadMany(t *testing.T) {
	b := bytes.Repeat([]byte{'a'}, 1<<24)
	for _, c := range []struct {
		first byte
		want  api.Errno
	}{{0, api.ErrLong}, {1, api.ErrLong}, {8, api.ErrLong}, {9, api.ErrLong}, {'a', api.ErrLong}, {255, api.ErrLong}} {
		b[0] = c.first
		if a, failed := Read(b); a != (Account{}) || failed != c.want {
			t.Errorf("%d: %v, %d", c.first, a, failed)
		}
	}
}
