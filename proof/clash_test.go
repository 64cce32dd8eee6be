package proof

import (
	"math/rand"
	"testing"

	"almagest/account"
	"almagest/api"
	"almagest/tree"
)

// holdNoClash holds that no clash is told of two claims, whichever is the first.
func holdNoClash(t *testing.T, place int, a, b Claim) {
	t.Helper()
	for _, pair := range [][2]Claim{{a, b}, {b, a}} {
		if x, y, is := Clash(place, pair[0], pair[1]); x != nil || y != nil || is {
			t.Errorf("place %d, %v, %v: %x, %x, %t", place, pair[0], pair[1], x, y, is)
		}
	}
}

// at tells the claim of a place's account of a tree, by its path.
func at(x *tree.Tree, place int) Claim {
	a, _ := x.Get(place)
	return Claim{a, way(x, place)}
}

// P16.3: the chapter's example: claims of unlike roots; of one account, too.
func TestClashUnlikeRoots(t *testing.T) {
	a, b := account.Account{Name: "a"}, account.Account{Name: "b"}
	for place := range 16 {
		holdNoClash(t, place, Claim{Account: a}, Claim{Account: b})
		holdNoClash(t, place, Claim{a, rising()}, Claim{b, rising()})
		holdNoClash(t, place, Claim{a, rising()}, Claim{Account: b})
		holdNoClash(t, place, Claim{a, rising()}, Claim{Account: a})
		for _, other := range others(account.Account{Name: "abc", Balance: 7, Nonce: 7}) {
			holdNoClash(t, place, Claim{other, rising()}, Claim{account.Account{Name: "abc", Balance: 7, Nonce: 7}, rising()})
		}
		for bit := range 4 * 256 {
			turned := rising()
			turned[bit/256][bit%256/8] ^= 1 << (bit % 8)
			holdNoClash(t, place, Claim{a, turned}, Claim{a, rising()})
		}
	}
}

// P16.3: two claims of one account that lead to one root.
func TestClashOneAccount(t *testing.T) {
	for _, l := range ledgers() {
		x := l.tree()
		for place, a := range l {
			if a.Name != "" {
				holdNoClash(t, place, at(x, place), at(x, place))
			}
		}
	}
	holdNoClash(t, 0, Claim{Account: some(1)}, Claim{Account: some(1)})
	holdNoClash(t, 15, Claim{some(1), rising()}, Claim{some(1), rising()})
}

// P16.3: places that there aren't: both have the digest that stands beside an error.
func TestClashNoPlace(t *testing.T) {
	x := full().tree()
	for _, place := range beyond {
		holdNoClash(t, place, Claim{some(1), rising()}, Claim{some(2), rising()})
		holdNoClash(t, place, Claim{some(1), rising()}, Claim{some(1), rising()})
		holdNoClash(t, place, at(x, 4), at(x, 5))
		holdNoClash(t, place, Claim{wrong[1], rising()}, Claim{some(2), rising()})
		holdNoClash(t, place, Claim{wrong[1], rising()}, Claim{wrong[2], rising()})
	}
}

// P16.3: accounts that may not be: one, the other, and both, also by one path, so that both
// have the digest that stands beside an error.
func TestClashNoAccount(t *testing.T) {
	x := full().tree()
	for place := range 16 {
		for i, a := range wrong {
			for _, b := range wrong[i:] {
				holdNoClash(t, place, Claim{a, way(x, place)}, Claim{b, way(x, place)})
				holdNoClash(t, place, Claim{a, rising()}, Claim{Account: b})
			}
			holdNoClash(t, place, Claim{a, way(x, place)}, at(x, place))
			holdNoClash(t, place, Claim{Account: a}, Claim{Account: some(place)})
		}
	}
}

// P16.3: two accounts at one place of two trees, at their own paths, and at each other's; and
// an account and its neighbour by the paths of one tree.
func TestClashTwoTrees(t *testing.T) {
	r := rand.New(rand.NewSource(169))
	for range 60 {
		l := chance(r, 16)
		changed := l
		place := r.Intn(16)
		changed[place] = someone(r)
		x, y, z := l.tree(), changed.tree(), chance(r, 12).tree()
		for place, a := range l {
			if a.Name == "" {
				continue
			}
			b := changed[place]
			holdNoClash(t, place, at(x, place), at(y, place))
			holdNoClash(t, place, Claim{a, way(y, place)}, Claim{b, way(x, place)})
			holdNoClash(t, place, at(x, place), Claim{b, way(x, place)})
			holdNoClash(t, place, at(x, place), at(x, place^1))
			if other, is := z.Get(place); is {
				holdNoClash(t, place, at(x, place), Claim{other, way(z, place)})
			}
		}
	}
}

// P16.3: claims of chance.
func TestClashChance(t *testing.T) {
	r := rand.New(rand.NewSource(170))
	for range 2000 {
		a, b := Claim{someone(r), path(r)}, Claim{someone(r), path(r)}
		for height := range a.Path {
			if r.Intn(2) == 0 {
				a.Path[height] = b.Path[height]
			}
		}
		holdNoClash(t, r.Intn(18)-1, a, b)
	}
}

// P16.3: the ends of unlike claims that are set so that they are near: one's way led up to
// some height stands as a digest of the other one's path.
func TestClashNear(t *testing.T) {
	r := rand.New(rand.NewSource(171))
	for range 300 {
		place := r.Intn(16)
		a, b := Claim{someone(r), path(r)}, Claim{someone(r), path(r)}
		b.Path = a.Path
		so, _ := account.Hash(a.Account)
		for height, side := range sides(place) {
			b.Path[height] = so
			holdNoClash(t, place, a, b)
			pair := [2]api.Hash{a.Path[height], a.Path[height]}
			pair[side] = so
			so = tree.Join(height+1, pair[0], pair[1])
		}
	}
}
