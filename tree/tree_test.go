package tree

import (
	"crypto/sha256"
	"encoding/binary"
	"encoding/hex"
	"math"
	"math/rand"
	"strings"
	"testing"

	"almagest/account"
	"almagest/api"
	"almagest/tag"
)

// written tells the digest of hexadecimal digits.
func written(digits string) api.Hash {
	b, err := hex.DecodeString(digits)
	if err != nil || len(b) != 32 {
		panic(digits)
	}
	return api.Hash(b)
}

// ledger has an account at each place, or none: one without a Name.
type ledger [16]account.Account

// tagged tells by the words of the chapter ahead the digest of a name and parts.
func tagged(name string, parts ...[]byte) api.Hash {
	image := append([]byte{byte(len(name))}, name...)
	image = append(image, byte(len(parts)))
	for _, part := range parts {
		image = binary.BigEndian.AppendUint32(image, uint32(len(part)))
		image = append(image, part...)
	}
	return sha256.Sum256(image)
}

// leaf tells by the chapters' words the digest of a place's account, or of none.
func leaf(a account.Account) api.Hash {
	if a.Name == "" {
		return tagged("empty")
	}
	b := append([]byte{byte(len(a.Name))}, a.Name...)
	b = binary.BigEndian.AppendUint64(b, a.Balance)
	return tagged("account", binary.BigEndian.AppendUint32(b, a.Nonce))
}

// joined tells by the chapter's words a node's digest.
func joined(height byte, left, right api.Hash) api.Hash {
	return tagged("node", []byte{height}, left[:], right[:])
}

// nodes tells all digests of a ledger's nodes, from the leaves up to the root, also of those
// that have no accounts.
func (l ledger) nodes() [5][]api.Hash {
	var all [5][]api.Hash
	for _, a := range l {
		all[0] = append(all[0], leaf(a))
	}
	for height := 1; height <= 4; height++ {
		below := all[height-1]
		for at := 0; at < len(below); at += 2 {
			all[height] = append(all[height], joined(byte(height), below[at], below[at+1]))
		}
	}
	return all
}

// many tells how many places have an account.
func (l ledger) many() int {
	n := 0
	for _, a := range l {
		if a.Name != "" {
			n++
		}
	}
	return n
}

// tree tells the tree of a ledger.
func (l ledger) tree(t *testing.T) *Tree {
	t.Helper()
	x := New()
	for place, a := range l {
		if a.Name != "" {
			holdSet(t, x, place, a, api.OK)
		}
	}
	return x
}

// beyond has places that no tree has: the nearest ones, far ones, and ones that go round to
// some that there are.
var beyond = []int{
	-1, 16, -2, 17, -15, -16, -17, 31, 32, 255, 256, 261, -251, 1<<16 + 5, 1<<31 - 1, 1 << 31, -1 << 31, 1<<32 - 1,
	1 << 32, 1<<32 + 5, -1<<32 + 5, 1 << 62, math.MaxInt - 1, math.MaxInt, math.MinInt, math.MinInt + 5,
}

// holdSet holds what Set answers.
func holdSet(t *testing.T, x *Tree, place int, a account.Account, want api.Errno) {
	t.Helper()
	if failed := x.Set(place, a); failed != want {
		t.Errorf("set %d, %+q: %d; want %d", place, a.Name, failed, want)
	}
}

// holdDrop holds what Drop answers.
func holdDrop(t *testing.T, x *Tree, place int, want bool) {
	t.Helper()
	if had := x.Drop(place); had != want {
		t.Errorf("drop %d: %t; want %t", place, had, want)
	}
}

// holdPlaces holds each place's account, and how many have one, against a ledger.
func holdPlaces(t *testing.T, x *Tree, l ledger) {
	t.Helper()
	if n := x.Len(); n != l.many() {
		t.Errorf("%d places have an account; want %d", n, l.many())
	}
	for place, want := range l {
		if a, is := x.Get(place); a != want || is != (want.Name != "") {
			t.Errorf("place %d: %v, %t; want %v", place, a, is, want)
		}
	}
	for _, place := range beyond {
		if a, is := x.Get(place); a != (account.Account{}) || is {
			t.Errorf("place %d: %v, %t", place, a, is)
		}
	}
}

// hold holds all that a tree tells against a ledger and the chapter's words.
func hold(t *testing.T, x *Tree, l ledger) {
	t.Helper()
	holdPlaces(t, x, l)
	all := l.nodes()
	if root := x.Root(); root != all[4][0] {
		t.Errorf("root %x; want %x", root, all[4][0])
	}
	for place := range l {
		var want Path
		for height := range want {
			beside := place >> height
			if beside%2 == 0 {
				beside++
			} else {
				beside--
			}
			want[height] = all[height][beside]
		}
		if p, failed := x.Path(place); p != want || failed != api.OK {
			t.Errorf("path of %d: %x, %d; want %x", place, p, failed, want)
		}
	}
	for _, place := range beyond {
		if p, failed := x.Path(place); p != (Path{}) || failed != api.ErrArg {
			t.Errorf("path of %d: %x, %d", place, p, failed)
		}
	}
	holdPlaces(t, x, l)
}

// some tells an account of each place, all unlike.
func some(place int) account.Account {
	name := strings.Repeat(string(rune('a'+place)), 1+place%8)
	return account.Account{Name: name, Balance: uint64(place)<<40 | uint64(place), Nonce: math.MaxUint32 - uint32(place)}
}

// full tells the ledger that has all of these.
func full() ledger {
	var l ledger
	for place := range l {
		l[place] = some(place)
	}
	return l
}

// wrong has accounts that may not be.
var wrong = []account.Account{
	{}, {Balance: 1}, {Nonce: 1}, {Name: "abcdefghi"}, {Name: "A"}, {Name: "ab1", Balance: 7, Nonce: 7}, {Name: "a b"},
	{Name: "\x00"}, {Name: "ä"}, {Name: "a\xff"}, {Name: "`"}, {Name: "{"}, {Name: strings.Repeat("a", 257)},
}

// P15.1: joined digests that another program made.
func TestJoinWrittenOut(t *testing.T) {
	low := written("000102030405060708090a0b0c0d0e0f101112131415161718191a1b1c1d1e1f")
	high := written("e0e1e2e3e4e5e6e7e8e9eaebecedeeeff0f1f2f3f4f5f6f7f8f9fafbfcfdfeff")
	for _, c := range []struct {
		height      int
		left, right api.Hash
		want        string
	}{
		{1, low, high, "0099779340d4abe59fada2f788fd67024962e281a8fb97f48e0003f1af980930"},
		{1, high, low, "50492e20f227546fe92ca0142f78ef0eb5c40caf91d514edd1c1bd18fd182b67"},
		{2, low, high, "045e4aa7718d1468875ce804437fc4741c628da2ad63f45f1726d63f4dafd45a"},
		{2, high, low, "463f4faf0de3420ce546ad3e72a838d22a431634cecd72166ab6beb4431706c3"},
		{3, low, high, "0aa6196e03d15dae7050f25c6ee78999257b566e8312a0866074499de5f0330f"},
		{3, high, low, "72c4dfc7a3ec285c604dd9b0042136d08cf6c2cc29585b32ed347c1a84540775"},
		{4, low, high, "9371486c0bb0d6f8a5828bb1fb97271d97ac99c18f9560a27124d43b4784141a"},
		{4, high, low, "a0f80ca904827bd499ed84e93763a6d256a5da745f5dbfb4e14e719358ad4d7a"},
		{1, api.Hash{}, api.Hash{}, "48e838303530b01016053e72dc71e9598ead86c7135cbac61c702a303fd72a3e"},
		{4, api.Hash{}, api.Hash{}, "bf3b36d056cbbf48c48c78442c30604968defb948f8d28426eff0c96f8722088"},
	} {
		if h := Join(c.height, c.left, c.right); h != written(c.want) {
			t.Errorf("%d, %x, %x: %x; want %s", c.height, c.left, c.right, h, c.want)
		}
	}
}

// holdJoin holds a node's digest against the chapter's words.
func holdJoin(t *testing.T, height int, left, right api.Hash) api.Hash {
	t.Helper()
	h := Join(height, left, right)
	if want := tag.Of("node", []byte{byte(height)}, left[:], right[:]); h != want {
		t.Errorf("%d, %x, %x: %x; want %x", height, left, right, h, want)
	}
	if want := joined(byte(height), left, right); h != want {
		t.Errorf("%d, %x, %x: %x; want %x", height, left, right, h, want)
	}
	return h
}

// P15.1: Join of each height, of digests of chance, changed round, alike, and of each bit
// of them turned; all of these are unlike.
func TestJoin(t *testing.T) {
	r := rand.New(rand.NewSource(151))
	seen := map[api.Hash]int{}
	for height := 1; height <= api.Depth; height++ {
		var left, right api.Hash
		r.Read(left[:])
		r.Read(right[:])
		seen[holdJoin(t, height, left, right)]++
		seen[holdJoin(t, height, right, left)]++
		seen[holdJoin(t, height, left, left)]++
		seen[holdJoin(t, height, api.Hash{}, api.Hash{})]++
		for bit := range 256 {
			turned := left
			turned[bit/8] ^= 1 << (bit % 8)
			seen[holdJoin(t, height, turned, right)]++
			turned = right
			turned[bit/8] ^= 1 << (bit % 8)
			seen[holdJoin(t, height, left, turned)]++
		}
	}
	if len(seen) != 4*(4+512) {
		t.Errorf("%d digests are unlike", len(seen))
	}
}

// P15.1: a new tree has no accounts, however many there are already.
func TestNew(t *testing.T) {
	for range 3 {
		x := New()
		if x == nil {
			t.Fatal("there is none")
		}
		hold(t, x, ledger{})
		holdSet(t, x, 7, some(7), api.OK)
		hold(t, x, ledger{7: some(7)})
	}
}

// P15.1: an account at each place alone.
func TestSetEachPlace(t *testing.T) {
	if api.Accounts != 16 || api.Depth != 4 {
		t.Fatal("the ledgers here are those of 16 places")
	}
	for place := range 16 {
		for _, a := range []account.Account{some(place), {Name: "a"}, {Name: "zzzzzzzz", Balance: math.MaxUint64, Nonce: math.MaxUint32}} {
			x, l := New(), ledger{}
			holdSet(t, x, place, a, api.OK)
			l[place] = a
			hold(t, x, l)
		}
	}
}

// P15.1: one account may stand at many places.
func TestSetOneAccount(t *testing.T) {
	x, l := New(), ledger{}
	for place := range l {
		l[place] = account.Account{Name: "same", Balance: 3}
		holdSet(t, x, place, l[place], api.OK)
		hold(t, x, l)
	}
}

// P15.1, R2: places that there aren't, whatever is to stand there: nothing is changed.
func TestSetNoPlace(t *testing.T) {
	for _, l := range []ledger{{}, {5: some(5)}, {0: some(0), 15: some(15)}, full()} {
		x := l.tree(t)
		for _, place := range beyond {
			for _, a := range append([]account.Account{some(3), some(5), {Name: "new"}}, wrong...) {
				holdSet(t, x, place, a, api.ErrArg)
			}
			holdPlaces(t, x, l)
		}
		hold(t, x, l)
	}
}

// P15.1, R2: accounts that may not be, at each place: nothing is changed.
func TestSetNoAccount(t *testing.T) {
	for _, l := range []ledger{{}, {5: some(5)}, {0: some(0), 15: some(15)}, full()} {
		x := l.tree(t)
		for place := range 16 {
			for _, a := range wrong {
				holdSet(t, x, place, a, api.ErrArg)
			}
			holdPlaces(t, x, l)
		}
		hold(t, x, l)
	}
}

// P15.1: an account where there is one already: the later one is there.
func TestSetAnew(t *testing.T) {
	l := full()
	x := l.tree(t)
	for place := range l {
		for _, a := range []account.Account{
			some(place), {Name: some(place).Name}, {Name: "other", Balance: 1}, {Name: "other", Balance: 2}, {Name: "other", Nonce: 2}, {Name: "o"},
		} {
			holdSet(t, x, place, a, api.OK)
			l[place] = a
			holdPlaces(t, x, l)
		}
		hold(t, x, l)
	}
}

// P15.1: Drop of places that have an account, that have none any more, that had none ever,
// and that there aren't.
func TestDrop(t *testing.T) {
	for _, l := range []ledger{{}, {5: some(5)}, {0: some(0), 15: some(15)}, full()} {
		x := l.tree(t)
		for place := range l {
			for _, none := range beyond {
				holdDrop(t, x, none, false)
			}
			holdPlaces(t, x, l)
			holdDrop(t, x, place, l[place].Name != "")
			l[place] = account.Account{}
			holdPlaces(t, x, l)
			holdDrop(t, x, place, false)
			hold(t, x, l)
		}
	}
}

// P15.1: a place that was dropped may have an account again.
func TestDropAndSetAgain(t *testing.T) {
	l := full()
	x := l.tree(t)
	for place := range l {
		holdDrop(t, x, place, true)
		holdSet(t, x, place, wrong[place%len(wrong)], api.ErrArg)
		holdDrop(t, x, place, false)
		l[place] = account.Account{Name: "again", Nonce: uint32(place)}
		holdSet(t, x, place, l[place], api.OK)
		hold(t, x, l)
		holdDrop(t, x, place, true)
		holdSet(t, x, place, some(place), api.OK)
		l[place] = some(place)
		hold(t, x, l)
	}
}

// P15.1, R3: what was handed in is changed afterwards, and so is what was answered.
func TestPlacesApart(t *testing.T) {
	x := New()
	a := account.Account{Name: "first", Balance: 1, Nonce: 1}
	holdSet(t, x, 9, a, api.OK)
	a.Name, a.Balance, a.Nonce = "other", 2, 2
	got, _ := x.Get(9)
	got.Name, got.Balance, got.Nonce = "third", 3, 3
	hold(t, x, ledger{9: {Name: "first", Balance: 1, Nonce: 1}})
	holdDrop(t, x, 9, true)
	if got != (account.Account{Name: "third", Balance: 3, Nonce: 3}) || a != (account.Account{Name: "other", Balance: 2, Nonce: 2}) {
		t.Errorf("%v, %v", got, a)
	}
}

// P15.1, R5: two trees don't change one another.
func TestTreesApart(t *testing.T) {
	x, y := New(), New()
	left, right := ledger{}, ledger{}
	for place := range left {
		left[place], right[15-place] = some(place), account.Account{Name: "right", Nonce: uint32(place)}
		holdSet(t, x, place, left[place], api.OK)
		hold(t, y, right.but(15-place))
		holdSet(t, y, 15-place, right[15-place], api.OK)
		hold(t, x, left)
		hold(t, New(), ledger{})
	}
	for place := range left {
		holdDrop(t, x, place, true)
		left[place] = account.Account{}
		hold(t, y, right)
		hold(t, x, left)
	}
}

// but tells the ledger without the account of a place.
func (l ledger) but(place int) ledger {
	l[place] = account.Account{}
	return l
}

// someone tells an account of chance that may be.
func someone(r *rand.Rand) account.Account {
	name := make([]byte, 1+r.Intn(8))
	for at := range name {
		name[at] = 'a' + byte(r.Intn(26))
	}
	return account.Account{Name: string(name), Balance: r.Uint64() >> r.Intn(64), Nonce: r.Uint32() >> r.Intn(32)}
}

// P15.1, P15.2: all that is done at chance, step by step, to some trees at a time.
func TestChance(t *testing.T) {
	r := rand.New(rand.NewSource(152))
	var trees [3]*Tree
	var ledgers [3]ledger
	for which := range trees {
		trees[which] = New()
	}
	met := map[string]int{}
	for step := range 6000 {
		which := r.Intn(len(trees))
		x, l := trees[which], &ledgers[which]
		place := r.Intn(16)
		had := l[place].Name != ""
		// Turns with more that is set, and with more that is dropped.
		kind := r.Intn(10) + step/500%2*3
		switch {
		case kind < 6:
			l[place] = someone(r)
			holdSet(t, x, place, l[place], api.OK)
			met["set"]++
			if had {
				met["set anew"]++
			}
		case kind == 6:
			holdSet(t, x, place, wrong[r.Intn(len(wrong))], api.ErrArg)
			met["wrong"]++
		case kind == 7:
			holdSet(t, x, beyond[r.Intn(len(beyond))], someone(r), api.ErrArg)
			holdDrop(t, x, beyond[r.Intn(len(beyond))], false)
			met["no place"]++
		default:
			holdDrop(t, x, place, had)
			l[place] = account.Account{}
			met["drop"]++
			if !had {
				met["drop none"]++
			}
		}
		if l.many() == 0 {
			met["bare"]++
		}
		if l.many() == 16 {
			met["full"]++
		}
		holdPlaces(t, x, *l)
		if step%8 == 0 {
			hold(t, x, *l)
		}
	}
	for which := range trees {
		hold(t, trees[which], ledgers[which])
	}
	for _, kind := range []string{"set", "set anew", "wrong", "no place", "drop", "drop none"} {
		if met[kind] < 100 {
			t.Errorf("%s is rare: %d", kind, met[kind])
		}
	}
	if met["bare"] == 0 || met["full"] == 0 {
		t.Errorf("no tree was bare, or none was full: %v", met)
	}
}
