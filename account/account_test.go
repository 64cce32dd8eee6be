package account

import (
	"bytes"
	"crypto/sha256"
	"encoding/binary"
	"encoding/hex"
	"math"
	"math/rand"
	"slices"
	"strings"
	"testing"
	"unicode/utf8"

	"almagest/api"
	"almagest/tag"
)

const letters = "abcdefghijklmnopqrstuvwxyz"

// written tells the bytes of hexadecimal digits.
func written(digits string) []byte {
	b, err := hex.DecodeString(digits)
	if err != nil {
		panic(digits)
	}
	return b
}

// may tells by the chapter's words whether a Name may be: byte for byte, not letter for
// letter.
func may(name string) bool {
	for i := 0; i < len(name); i++ {
		if strings.IndexByte(letters, name[i]) < 0 {
			return false
		}
	}
	return len(name) >= 1 && len(name) <= 8
}

// told tells by the chapter's words what an account's bytes are.
func told(a Account) []byte {
	b := append([]byte{byte(len(a.Name))}, a.Name...)
	b = binary.BigEndian.AppendUint64(b, a.Balance)
	return binary.BigEndian.AppendUint32(b, a.Nonce)
}

// digest tells by the words of the chapter ahead what the digest of bytes is.
func digest(b []byte) api.Hash {
	image := append([]byte{7}, "account"...)
	image = append(image, 1)
	image = binary.BigEndian.AppendUint32(image, uint32(len(b)))
	return sha256.Sum256(append(image, b...))
}

// hold holds what is told of an account against the chapter's words.
func hold(t *testing.T, a Account) {
	t.Helper()
	want, named, failed := []byte(nil), api.Hash{}, api.ErrArg
	if may(a.Name) {
		want, failed = told(a), api.OK
		named = digest(want)
	}
	if right := Right(a); right != (failed == api.OK) {
		t.Errorf("%+q: right %t", a.Name, right)
	}
	if b, e := Bytes(a); !bytes.Equal(b, want) || e != failed {
		t.Errorf("%+q, %d, %d: bytes %x, %d; want %x, %d", a.Name, a.Balance, a.Nonce, b, e, want, failed)
	}
	if h, e := Hash(a); h != named || e != failed {
		t.Errorf("%+q, %d, %d: digest %x, %d; want %x, %d", a.Name, a.Balance, a.Nonce, h, e, named, failed)
	}
}

// holdRight holds whether a Name may be, whatever stands beside it.
func holdRight(t *testing.T, name string, want bool) {
	t.Helper()
	for _, a := range []Account{{Name: name}, {Name: name, Balance: math.MaxUint64, Nonce: math.MaxUint32}} {
		if right := Right(a); right != want {
			t.Errorf("%+q, %d, %d: right %t", a.Name, a.Balance, a.Nonce, right)
		}
	}
}

// set tells a name with other bytes in the stead of the one at a place.
func set(name string, at int, other string) string { return name[:at] + other + name[at+1:] }

// P14.1: the chapter's example, and others; another program made the bytes and digests.
func TestWrittenOut(t *testing.T) {
	for _, c := range []struct {
		a             Account
		bytes, digest string
	}{
		{Account{"ab", 258, 3}, "026162000000000000010200000003", "8ea9ead60e21d9b442b483cadc93a20a31c76737d7db46952320fb08e61ac3b5"},
		{Account{"a", 0, 0}, "0161000000000000000000000000", "9fa21d887380a73ff39696d83d0e694181496e505c087a5bb6c9b72c6c6b9cb5"},
		{Account{"z", 1, 1}, "017a000000000000000100000001", "1c1dd9cb1c88e7bdf1d199b780a907a6df704fb06990d790214acc1915bce83b"},
		{Account{"abcdefgh", 0x1112131415161718, 0x191a1b1c}, "0861626364656667681112131415161718191a1b1c", "2b6acc16aad9d7f3cecd737a15fab4c6b081c413fd7ec8076b4fa480bd8ffaf9"},
		{Account{"zyxwvuts", math.MaxUint64, math.MaxUint32}, "087a79787776757473ffffffffffffffffffffffff", "1fdb18a0340b22c6188dc261e55b9b918c548518ce78a929b3ea421a724a4e14"},
		{Account{"mm", 1 << 63, 1 << 31}, "026d6d800000000000000080000000", "c38be15928324678b77e0a97627d0eb017730fe060b002047eff7a2c9fbc43ec"},
		{Account{"almagest", 1 << 32, 0}, "08616c6d6167657374000000010000000000000000", "c1cb7baea4fc4bf623a29298f6044de512f6a6e0f7d6038e2a9b8c9069a5828b"},
		{Account{"q", 0, math.MaxUint32}, "01710000000000000000ffffffff", "b268edfb127e51470449548feff4f56bb060b809fce38067d49717a205768d3c"},
	} {
		if !Right(c.a) {
			t.Errorf("%v isn't right", c.a)
		}
		if b, failed := Bytes(c.a); !bytes.Equal(b, written(c.bytes)) || failed != api.OK {
			t.Errorf("%v: %x, %d; want %s", c.a, b, failed, c.bytes)
		}
		if h, failed := Hash(c.a); !bytes.Equal(h[:], written(c.digest)) || failed != api.OK {
			t.Errorf("%v: digest %x, %d; want %s", c.a, h, failed, c.digest)
		}
	}
}

// P14.1: the digest of no account, which no account has.
func TestNone(t *testing.T) {
	want := api.Hash(written("1d500aea373c060d0b268da9d2892b865951095c460880717e8259db68d294df"))
	if image := sha256.Sum256([]byte("\x05empty\x00")); want != image {
		t.Fatalf("the digest written out isn't of its image: %x", image)
	}
	for range 3 {
		if h := None(); h != want || h != tag.Of("empty") {
			t.Errorf("%x; want %x", h, want)
		}
	}
	for _, a := range []Account{{Name: "a"}, {Name: "empty"}, {Name: "none", Balance: 1, Nonce: 1}} {
		if h, _ := Hash(a); h == want {
			t.Errorf("%v has the digest of no account", a)
		}
	}
	for _, one := range []api.Hash{{}, tag.Of(""), tag.Of("empty", nil), tag.Of("account"), tag.Of("none")} {
		if one == want {
			t.Errorf("%x is the digest of no account", one)
		}
	}
}

// P14.1: Names by how many bytes they have, also as many as go round in a byte to few.
func TestRightLengths(t *testing.T) {
	for _, n := range []int{0, 1, 2, 7, 8, 9, 10, 16, 255, 256, 257, 258, 264, 512, 1<<16 + 1, 1<<16 + 8, 1<<24 + 1} {
		for _, letter := range []string{"a", "m", "z"} {
			name := strings.Repeat(letter, n)
			want := n >= 1 && n <= 8
			if right := Right(Account{Name: name}); right != want {
				t.Errorf("%d times %s: right %t", n, letter, right)
			}
			b, failed := Bytes(Account{Name: name, Balance: 1})
			if (failed == api.OK) != want || !want && (failed != api.ErrArg || b != nil) {
				t.Errorf("%d times %s: %d bytes, %d", n, letter, len(b), failed)
			}
		}
	}
	holdRight(t, "abcdefgh", true)
	holdRight(t, "abcdefghi", false)
	holdRight(t, "", false)
	if api.MostName != 8 {
		t.Fatal("the bounds here are those of 8 bytes")
	}
}

// P14.1: each byte at each place of Names of each length.
func TestRightBytes(t *testing.T) {
	for n := 1; n <= 9; n++ {
		for at := range n {
			for b := range 256 {
				name := set("abcdefghi"[:n], at, string([]byte{byte(b)}))
				holdRight(t, name, n <= 8 && b >= 97 && b <= 122)
			}
		}
	}
}

// P14.1: all Names of two bytes, and all of three that have some byte in the middle.
func TestRightPairs(t *testing.T) {
	count := 0
	for b := range 256 {
		for c := range 256 {
			name := string([]byte{byte(b), byte(c)})
			holdRight(t, name, may(name))
			if Right(Account{Name: name}) {
				count++
			}
			for _, middle := range []byte{'a', 'z', 0x80, 0xBF, 0xC3, 0xE2} {
				name := string([]byte{byte(b), middle, byte(c)})
				holdRight(t, name, may(name))
			}
		}
	}
	if count != 26*26 {
		t.Errorf("%d Names of two bytes may be", count)
	}
}

// P14.1: each letter that there is, as a Name, and at the beginning, in the middle and at
// the end of one.
func TestRightLetters(t *testing.T) {
	count := 0
	for letter := rune(0); letter <= utf8.MaxRune; letter++ {
		s := string(letter)
		want := letter >= 'a' && letter <= 'z'
		for _, name := range []string{s, s + "bc", "b" + s + "c", "bc" + s} {
			if right := Right(Account{Name: name}); right != want {
				t.Fatalf("%+q: right %t", name, right)
			}
		}
		if Right(Account{Name: s}) {
			count++
		}
	}
	if count != 26 {
		t.Errorf("%d letters may be", count)
	}
}

// P14.1: things that are near to a letter from a to z, and bytes that are no text at all.
func TestRightNear(t *testing.T) {
	for _, other := range []string{
		"A", "Z", "K", "0", "9", " ", "\t", "\n", "\x00", "\x7f", "`", "{", "_", "-", ".", "@", "[",
		"à", "ä", "ß", "ñ", "ı", "ſ", "ⓐ", "ａ", "ｚ", "а", "ª", "µ", "\u212a", "\U0001d41a", "\u0301", "\ufeff", "\ufffd", "日", "😀",
		"\x80", "\xbf", "\xc3", "\xe2\x82", "\xf0\x9f\x98", "\xff", "\xfe\xff", "\xed\xa0\x80", "\xf4\x90\x80\x80",
		"\xc1\xa1", "\xe0\x81\xa1", "\xf0\x80\x81\xa1", "\xe1", "\xfa", "\xc1\xba",
	} {
		for _, name := range []string{other, other + "a", "a" + other, "a" + other + "z", other + other, "zz" + other + "a"} {
			holdRight(t, name, false)
			hold(t, Account{Name: name, Balance: 7, Nonce: 9})
		}
	}
	// As many letters as may be, but more bytes; and fewer letters, but too many bytes.
	for _, name := range []string{"ääääääää", "ääää", "éa", "aaaaaaaé", "éééé", "日本", "日本語"} {
		hold(t, Account{Name: name})
	}
}

// P14.1: Bytes and Hash of Names of each length, by numbers at their edges and with each
// byte of them another one.
func TestNumbers(t *testing.T) {
	balances := []uint64{0, 1, 255, 256, 1<<32 - 1, 1 << 32, 1<<63 - 1, 1 << 63, math.MaxUint64 - 1, math.MaxUint64, 0x0102030405060708}
	nonces := []uint32{0, 1, 255, 256, 1<<31 - 1, 1 << 31, math.MaxUint32 - 1, math.MaxUint32, 0x090A0B0C}
	for n := range 11 {
		name := "kdjzahxqpw"[:n]
		for _, balance := range balances {
			for _, nonce := range nonces {
				hold(t, Account{name, balance, nonce})
			}
		}
	}
	for at := range 64 {
		hold(t, Account{"bits", 1 << at, 5})
		hold(t, Account{"bits", ^uint64(1 << at), 5})
		hold(t, Account{"bits", 5, 1 << (at % 32)})
		hold(t, Account{"bits", 5, ^uint32(1 << (at % 32))})
	}
}

// P14.1: each letter at each place of a Name is written where it stands.
func TestBytesLetters(t *testing.T) {
	for n := 1; n <= 8; n++ {
		for at := range n {
			for _, letter := range letters {
				hold(t, Account{set("mnopqrst"[:n], at, string(letter)), 1<<56 + 3, 1<<24 + 2})
			}
		}
	}
}

// P14.1: a digest is tag.Of of account, and the one part its bytes.
func TestHash(t *testing.T) {
	r := rand.New(rand.NewSource(141))
	for range 2000 {
		a := chance(r)
		b, _ := Bytes(a)
		if h, failed := Hash(a); h != tag.Of("account", b) || h != digest(told(a)) || failed != api.OK {
			t.Errorf("%v: %x, %d", a, h, failed)
		}
	}
}

// chance tells an account that may be.
func chance(r *rand.Rand) Account {
	name := make([]byte, 1+r.Intn(8))
	for at := range name {
		name[at] = letters[r.Intn(26)]
	}
	return Account{string(name), r.Uint64() >> r.Intn(64), r.Uint32() >> r.Intn(32)}
}

// P14.1: accounts of chance, whose Names may be, or may not.
func TestChance(t *testing.T) {
	r := rand.New(rand.NewSource(142))
	met := map[bool]int{}
	for range 20000 {
		a := chance(r)
		switch r.Intn(4) {
		case 0:
			a.Name = set(a.Name, r.Intn(len(a.Name)), string([]byte{byte(r.Intn(256))}))
		case 1:
			at := r.Intn(len(a.Name) + 1)
			a.Name = a.Name[:at] + string(rune(r.Intn(1<<(1+r.Intn(16))))) + a.Name[at:]
		case 2:
			a.Name += chance(r).Name
		}
		met[may(a.Name)]++
		hold(t, a)
	}
	if met[true] < 1000 || met[false] < 1000 {
		t.Errorf("one kind is rare: %v", met)
	}
}

// P14.1, R3, R4: what was answered is changed, and the same is answered again.
func TestBytesApart(t *testing.T) {
	a := Account{"almagest", 1<<40 + 77, 1<<20 + 5}
	first, _ := Bytes(a)
	for i := range first[:cap(first)] {
		first[:cap(first)][i] ^= 255
	}
	changed := slices.Clone(first)
	second, failed := Bytes(a)
	if !bytes.Equal(second, told(a)) || failed != api.OK {
		t.Errorf("%x, %d", second, failed)
	}
	if !bytes.Equal(first, changed) {
		t.Errorf("what was answered changed: %x", first)
	}
	if a != (Account{"almagest", 1<<40 + 77, 1<<20 + 5}) {
		t.Errorf("the account changed: %v", a)
	}
	h, _ := Hash(a)
	h[0]++
	hold(t, a)
}
