package proof

import (
	"math"
	"math/rand"
	"strings"
	"testing"

	"almagest/account"
	"almagest/api"
	"almagest/tree"
)

// ledger has an account at each place, or none: one without a Name.
type ledger [16]account.Account

// tree tells the tree of a ledger.
func (l ledger) tree() *tree.Tree {
	x := tree.New()
	for place, a := range l {
		if a.Name != "" && x.Set(place, a) != api.OK {
			panic(a.Name)
		}
	}
	return x
}

// way tells a place's path.
func way(x *tree.Tree, place int) tree.Path {
	p, failed := x.Path(place)
	if failed != api.OK {
		panic(place)
	}
	return p
}

// some tells an account of each place, all unlike.
func some(place int) account.Account {
	name := strings.Repeat(string(rune('a'+place)), 1+place%8)
	return account.Account{Name: name, Balance: uint64(place)<<40 | uint64(place), Nonce: math.MaxUint32 - uint32(place)}
}

// full tells the ledger that has all of these.
func full() ledger {
	var l ledger
	for place := range l {
		l[place] = some(place)
	}
	return l
}

// someone tells an account of chance that may be.
func someone(r *rand.Rand) account.Account {
	name := make([]byte, 1+r.Intn(8))
	for at := range name {
		name[at] = 'a' + byte(r.Intn(26))
	}
	return account.Account{Name: string(name), Balance: r.Uint64() >> r.Intn(64), Nonce: r.Uint32() >> r.Intn(32)}
}

// chance tells a ledger that has about so many accounts.
func chance(r *rand.Rand, many int) ledger {
	var l ledger
	for place := range l {
		if r.Intn(16) < many {
			l[place] = someone(r)
		}
	}
	return l
}

// wrong has accounts that may not be.
var wrong = []account.Account{
	{}, {Balance: 1}, {Nonce: 1}, {Name: "abcdefghi"}, {Name: "A"}, {Name: "ab1", Balance: 7, Nonce: 7}, {Name: "a b"},
	{Name: "\x00"}, {Name: "ä"}, {Name: "a\xff"}, {Name: "`"}, {Name: "{"}, {Name: strings.Repeat("a", 257)},
}

// others tells accounts that are near to one that has a Name of up to 7 letters, but unlike.
func others(a account.Account) []account.Account {
	l := []account.Account{
		{Name: a.Name + "a", Balance: a.Balance, Nonce: a.Nonce},
		{Name: "x" + a.Name[1:], Balance: a.Balance, Nonce: a.Nonce},
		{Name: a.Name, Balance: a.Balance + 1, Nonce: a.Nonce},
		{Name: a.Name, Balance: a.Balance ^ 1<<63, Nonce: a.Nonce},
		{Name: a.Name, Balance: a.Balance, Nonce: a.Nonce + 1},
		{Name: a.Name, Balance: a.Balance, Nonce: a.Nonce ^ 1<<31},
		{Name: "y"},
	}
	if len(a.Name) > 1 {
		l = append(l, account.Account{Name: a.Name[1:], Balance: a.Balance, Nonce: a.Nonce})
	}
	return l
}

// ledgers has ones without accounts, with some of them, and with all.
func ledgers() []ledger {
	few, odd := ledger{5: some(5)}, ledger{}
	for place := 1; place < 16; place += 2 {
		odd[place] = some(place)
	}
	return []ledger{
		{}, few, odd, {0: some(0), 15: some(15)}, {6: some(6), 7: some(7), 8: some(8)},
		{0: some(0), 1: some(1), 2: some(2), 3: some(3)}, full(),
	}
}

// holdCheck holds what Check answers.
func holdCheck(t *testing.T, root api.Hash, place int, a account.Account, p tree.Path, want api.Errno) {
	t.Helper()
	if failed := Check(root, place, a, p); failed != want {
		t.Errorf("root %x, place %d, %+q, %d, %d, path %x: %d; want %d", root, place, a.Name, a.Balance, a.Nonce, p, failed, want)
	}
}

// P16.1: a root, and paths, that another program made.
func TestCheckWrittenOut(t *testing.T) {
	root := written("ce099f376620427b18edfc457fa75ad5cf6a278f81fecc93e27455ed141f9975")
	pair, four := "a171dc7d544a27639a71f341dca57e2f0ae0fdaa60ddc8c2af77777a306d3b86", "5d67c1742595dc0f0d1ef3df54edba525e0fd4fdf99251f8648801552f6cbb6d"
	right := "5c8b02fd17baabfec3304e68d86aa935e3b8994396c080060a88145983986287"
	for _, c := range []struct {
		place int
		a     account.Account
		path  [4]string
	}{
		{5, account.Account{Name: "ab", Balance: 258, Nonce: 3}, [4]string{"b268edfb127e51470449548feff4f56bb060b809fce38067d49717a205768d3c", pair, four, right}},
		{4, account.Account{Name: "q", Nonce: math.MaxUint32}, [4]string{"8ea9ead60e21d9b442b483cadc93a20a31c76737d7db46952320fb08e61ac3b5", pair, four, right}},
		{12, account.Account{Name: "almagest", Balance: 1 << 32}, [4]string{
			"1d500aea373c060d0b268da9d2892b865951095c460880717e8259db68d294df", pair, four,
			"0713ec9dbeeddceba150c5ae74a436d755b1406ec9c763321d1974e9df46eb21",
		}},
	} {
		var p tree.Path
		for height, digits := range c.path {
			p[height] = written(digits)
		}
		for place := range 16 {
			want := api.ErrRoot
			if place == c.place {
				want = api.OK
			}
			holdCheck(t, root, place, c.a, p, want)
		}
	}
}

// P16.1: each place of trees: its own account and path; and with another root, place, account
// or path.
func TestCheckEachPlace(t *testing.T) {
	for _, l := range ledgers() {
		x := l.tree()
		root := x.Root()
		for place, a := range l {
			p := way(x, place)
			if a.Name == "" {
				holdCheck(t, root, place, some(place), p, api.ErrRoot)
				continue
			}
			holdCheck(t, root, place, a, p, api.OK)
			holdCheckElsewhere(t, x, place, a, p)
		}
	}
}

// holdCheckElsewhere holds that an account that stands at a place of a tree, where all have
// others, doesn't stand there with anything changed.
func holdCheckElsewhere(t *testing.T, x *tree.Tree, place int, a account.Account, p tree.Path) {
	t.Helper()
	root := x.Root()
	for bit := range 256 {
		other := root
		other[bit/8] ^= 1 << (bit % 8)
		holdCheck(t, other, place, a, p, api.ErrRoot)
	}
	for at := range 32 {
		for height := range p {
			other := p
			other[height][at]++
			holdCheck(t, root, place, a, other, api.ErrRoot)
		}
	}
	for other := range 16 {
		if other == place {
			continue
		}
		holdCheck(t, root, other, a, p, api.ErrRoot)
		holdCheck(t, root, other, a, way(x, other), api.ErrRoot)
		// In a tree of few accounts two places may well have one path.
		if q := way(x, other); q != p {
			holdCheck(t, root, place, a, q, api.ErrRoot)
		}
	}
	if len(a.Name) < 8 {
		for _, other := range others(a) {
			holdCheck(t, root, place, other, p, api.ErrRoot)
		}
	}
	holdCheck(t, api.Hash{}, place, a, p, api.ErrRoot)
	holdCheck(t, tree.New().Root(), place, a, p, api.ErrRoot)
}

// P16.1: what leads there is enough: an account that stands at both places of a node, by the
// other one's path; and one at no place of any tree, at the root that its path leads to.
func TestCheckIsOfPathAlone(t *testing.T) {
	a := account.Account{Name: "twin", Balance: 2}
	x := ledger{2: a, 3: a, 9: a}.tree()
	holdCheck(t, x.Root(), 2, a, way(x, 3), api.OK)
	holdCheck(t, x.Root(), 3, a, way(x, 2), api.OK)
	holdCheck(t, x.Root(), 9, a, way(x, 2), api.ErrRoot)
	r := rand.New(rand.NewSource(164))
	for range 200 {
		place, a, p := r.Intn(16), someone(r), path(r)
		leaf, _ := account.Hash(a)
		holdCheck(t, led(place, leaf, p), place, a, p, api.OK)
		holdCheck(t, led(place^(1+r.Intn(15)), leaf, p), place, a, p, api.ErrRoot)
		holdCheck(t, leaf, place, a, p, api.ErrRoot)
		holdCheck(t, p[r.Intn(4)], place, a, p, api.ErrRoot)
	}
}

// P16.1: an account stands in none of the trees that have another one there, or none, by
// whatever path of theirs.
func TestCheckOtherTrees(t *testing.T) {
	l := full()
	x := l.tree()
	for place, a := range l {
		for _, other := range others(account.Account{Name: "abc", Balance: 7, Nonce: 7}) {
			changed := l
			changed[place] = other
			y := changed.tree()
			holdCheck(t, y.Root(), place, a, way(y, place), api.ErrRoot)
			holdCheck(t, x.Root(), place, other, way(x, place), api.ErrRoot)
		}
		dropped := l
		dropped[place] = account.Account{}
		y := dropped.tree()
		holdCheck(t, y.Root(), place, a, way(y, place), api.ErrRoot)
		// The path tells nothing of the place's own account.
		holdCheck(t, x.Root(), place, a, way(y, place), api.OK)
	}
}

// P16.1, R2: places that there aren't, accounts that may not be, and both at once, also where
// the root is one that an error has beside it, or to which a path leads from the zero digest.
func TestCheckErrors(t *testing.T) {
	for _, l := range []ledger{{}, {5: some(5)}, full()} {
		x := l.tree()
		for _, root := range []api.Hash{x.Root(), {}, {1}} {
			for _, place := range beyond {
				holdCheck(t, root, place, some(5), way(x, 5), api.ErrArg)
				holdCheck(t, root, place, wrong[0], way(x, 5), api.ErrArg)
				holdCheck(t, root, place, wrong[3], tree.Path{}, api.ErrArg)
			}
			for place := range 16 {
				for _, a := range wrong {
					holdCheck(t, root, place, a, way(x, place), api.ErrArg)
					holdCheck(t, root, place, a, tree.Path{}, api.ErrArg)
				}
			}
		}
		for place := range 16 {
			p := way(x, place)
			for _, a := range wrong {
				holdCheck(t, led(place, api.Hash{}, p), place, a, p, api.ErrArg)
				holdCheck(t, led(place, account.None(), p), place, a, p, api.ErrArg)
			}
		}
	}
}

// P16.4: of trees of chance each account's path leads to the root, and a place's without an
// account there from the digest of none.
func TestTreesLead(t *testing.T) {
	r := rand.New(rand.NewSource(165))
	met := map[bool]int{}
	for range 300 {
		l := chance(r, r.Intn(17))
		x := l.tree()
		root := x.Root()
		for place, a := range l {
			p := way(x, place)
			met[a.Name != ""]++
			if a.Name == "" {
				holdLead(t, place, account.None(), p, root, api.OK)
				holdCheck(t, root, place, someone(r), p, api.ErrRoot)
				continue
			}
			leaf, _ := account.Hash(a)
			holdLead(t, place, leaf, p, root, api.OK)
			holdCheck(t, root, place, a, p, api.OK)
		}
	}
	if met[true] < 1000 || met[false] < 1000 {
		t.Errorf("one kind is rare: %v", met)
	}
}

// P16.4: likewise while a tree is changed step by step; paths of before lead to their own
// root as ever.
func TestTreesLeadStepByStep(t *testing.T) {
	r := rand.New(rand.NewSource(166))
	x, l := tree.New(), ledger{}
	type kept struct {
		root  api.Hash
		place int
		claim Claim
	}
	var before []kept
	for range 400 {
		place := r.Intn(16)
		if l[place].Name != "" && r.Intn(3) == 0 {
			x.Drop(place)
			l[place] = account.Account{}
		} else {
			l[place] = someone(r)
			x.Set(place, l[place])
		}
		for place, a := range l {
			if a.Name != "" {
				holdCheck(t, x.Root(), place, a, way(x, place), api.OK)
				before = append(before, kept{x.Root(), place, Claim{a, way(x, place)}})
			} else {
				holdLead(t, place, account.None(), way(x, place), x.Root(), api.OK)
			}
		}
	}
	for _, k := range before {
		holdCheck(t, k.root, k.place, k.claim.Account, k.claim.Path, api.OK)
	}
}
