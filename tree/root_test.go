package tree

import (
	"math/bits"
	"math/rand"
	"testing"

	"almagest/account"
	"almagest/api"
)

// P15.2: the chapter's example: the root of a tree without accounts.
func TestExample(t *testing.T) {
	want := account.None()
	for height := 1; height <= 4; height++ {
		want = Join(height, want, want)
	}
	if root := New().Root(); root != want || root != written("bfb8f80c39f90d4da780b61bb64bcd1e9dce04e3c7eba0adfaf0f896d3321db4") {
		t.Errorf("%x; want %x", root, want)
	}
}

// P15.2: roots and paths that another program made.
func TestWrittenOut(t *testing.T) {
	for i, c := range []struct {
		l     ledger
		root  string
		place int
		path  [4]string
	}{
		{ledger{}, "bfb8f80c39f90d4da780b61bb64bcd1e9dce04e3c7eba0adfaf0f896d3321db4", 0, [4]string{
			"1d500aea373c060d0b268da9d2892b865951095c460880717e8259db68d294df", "a171dc7d544a27639a71f341dca57e2f0ae0fdaa60ddc8c2af77777a306d3b86",
			"5d67c1742595dc0f0d1ef3df54edba525e0fd4fdf99251f8648801552f6cbb6d", "45d522ea3a9333551a07c0763c206e9a52acd3bc27c6026cdd8d5204c47d2e09",
		}},
		{ledger{0: {Name: "ab", Balance: 258, Nonce: 3}}, "f0d3fb4221b9f9690546ee9646ece8324b66a9830dadcf0beb055e4e018d96b7", 1, [4]string{
			"8ea9ead60e21d9b442b483cadc93a20a31c76737d7db46952320fb08e61ac3b5", "a171dc7d544a27639a71f341dca57e2f0ae0fdaa60ddc8c2af77777a306d3b86",
			"5d67c1742595dc0f0d1ef3df54edba525e0fd4fdf99251f8648801552f6cbb6d", "45d522ea3a9333551a07c0763c206e9a52acd3bc27c6026cdd8d5204c47d2e09",
		}},
		{ledger{15: {Name: "z", Balance: 1, Nonce: 1}}, "9c508d4fa03454cde57824a331033c2627438e8d7186bf34a2576bb6bf2b0df2", 8, [4]string{
			"1d500aea373c060d0b268da9d2892b865951095c460880717e8259db68d294df", "a171dc7d544a27639a71f341dca57e2f0ae0fdaa60ddc8c2af77777a306d3b86",
			"e46563c696feb0bf1e7c4183cd8cb4409e5c30e8b1263b43cfbe5358231a16b7", "45d522ea3a9333551a07c0763c206e9a52acd3bc27c6026cdd8d5204c47d2e09",
		}},
		{ledger{5: {Name: "a", Balance: 5}, 12: {Name: "b", Nonce: 7}}, "0d1425dcddbb10f08032bac7c99603e10cd40f6f5e97673e4d9aa2a64531361e", 13, [4]string{
			"41947d07088f7425d32158c5bc1cf1512fd1f24722f3bb9569e530d0aaed004c", "a171dc7d544a27639a71f341dca57e2f0ae0fdaa60ddc8c2af77777a306d3b86",
			"5d67c1742595dc0f0d1ef3df54edba525e0fd4fdf99251f8648801552f6cbb6d", "50d8698fce69f6187ff0c2085127f133e3ed715aa288b0ecb9193e8524adbc96",
		}},
		{full(), "6c8d5e8b050402f5f1317ae7990e49e511955864d1f088e578b1567f83f5899d", 10, [4]string{
			"e8da751c569c4753d267291f43d2ccfc3e86700e4bdfe501b03c4a24a213c1d3", "eea1d5c790340c70a3ed6412332dbc2f6dc29768dbddf2b4633c3d8f67d15154",
			"626f63a75dd2e4d8de1e7076ae1d79f3606d36e63e5439e90300abea19261a0d", "7969666d7b23f863e43fcfc050415ca3d93bbedc87e7db172068bdf913d68c7c",
		}},
		{full().but(9), "ccf6a09344e5036215cd60fad1313b2b88222ecc18422d19cd681c0de9a85d63", 9, [4]string{
			"f83c14b5b9d4a3d359489ae311239a75f75f3c85de92ae0a02fae97b7360b5f0", "913a3e0ea51b1fdeada7a3da0b800275744fd7bfc11261112917c853f58fde20",
			"626f63a75dd2e4d8de1e7076ae1d79f3606d36e63e5439e90300abea19261a0d", "7969666d7b23f863e43fcfc050415ca3d93bbedc87e7db172068bdf913d68c7c",
		}},
	} {
		x := c.l.tree(t)
		if root := x.Root(); root != written(c.root) {
			t.Errorf("case %d: root %x; want %s", i, root, c.root)
		}
		p, failed := x.Path(c.place)
		for height, digits := range c.path {
			if p[height] != written(digits) {
				t.Errorf("case %d: at the height %d of the path %x; want %s", i, height, p[height], digits)
			}
		}
		if failed != api.OK {
			t.Errorf("case %d: %d", i, failed)
		}
	}
}

// P15.2: the nodes of a full tree, joined out one by one: where each place stands.
func TestRootJoinedOut(t *testing.T) {
	var leaves [16]api.Hash
	for place := range leaves {
		leaves[place], _ = account.Hash(some(place))
	}
	pair := func(place int) api.Hash { return Join(1, leaves[place], leaves[place+1]) }
	four := func(place int) api.Hash { return Join(2, pair(place), pair(place+2)) }
	want := Join(4, Join(3, four(0), four(4)), Join(3, four(8), four(12)))
	x := full().tree(t)
	if root := x.Root(); root != want {
		t.Errorf("%x; want %x", root, want)
	}
	for _, c := range []struct {
		place int
		want  Path
	}{
		{0, Path{leaves[1], pair(2), four(4), Join(3, four(8), four(12))}},
		{6, Path{leaves[7], pair(4), four(0), Join(3, four(8), four(12))}},
		{9, Path{leaves[8], pair(10), four(12), Join(3, four(0), four(4))}},
		{15, Path{leaves[14], pair(12), four(8), Join(3, four(0), four(4))}},
	} {
		if p, failed := x.Path(c.place); p != c.want || failed != api.OK {
			t.Errorf("%d: %x, %d; want %x", c.place, p, failed, c.want)
		}
	}
}

// P15.2: the root of each set of places, some account at each of them; from one to the next
// one place is set or dropped.
func TestRootOfAllPlaces(t *testing.T) {
	// By the places of a half that have an account, the digest of its node.
	var halves [2][256]api.Hash
	for half := range halves {
		for places := range 256 {
			var l ledger
			for at := range 8 {
				if places>>at&1 == 1 {
					l[8*half+at] = some(8*half + at)
				}
			}
			halves[half][places] = l.nodes()[3][half]
		}
	}
	x, at := New(), 0
	for i := range 1 << 16 {
		if i > 0 {
			place := bits.TrailingZeros(uint(i))
			if at>>place&1 == 0 {
				holdSet(t, x, place, some(place), api.OK)
			} else {
				holdDrop(t, x, place, true)
			}
			at ^= 1 << place
		}
		want := joined(4, halves[0][at&255], halves[1][at>>8])
		if root := x.Root(); root != want || x.Len() != bits.OnesCount(uint(at)) {
			t.Fatalf("places %016b: %d, root %x; want %x", at, x.Len(), root, want)
		}
	}
}

// P15.2: each place, two places, and all but one or two of them: roots and paths.
func TestPathOfFewAndOfMost(t *testing.T) {
	for one := range 16 {
		for other := range one + 1 {
			var few ledger
			few[one], few[other] = some(one), some(other)
			hold(t, few.tree(t), few)
			most := full().but(one).but(other)
			hold(t, most.tree(t), most)
		}
	}
}

// P15.2: runs of places that have accounts, so that whole nodes are full, or bare.
func TestPathOfRuns(t *testing.T) {
	for from := range 16 {
		for to := from; to <= 16; to++ {
			inside, outside := ledger{}, full()
			for place := from; place < to; place++ {
				inside[place], outside[place] = some(place), account.Account{}
			}
			hold(t, inside.tree(t), inside)
			hold(t, outside.tree(t), outside)
		}
	}
}

// P15.2: that a place's own account changes nothing of its path, and that a neighbour's
// changes the first digest, and none else.
func TestPathBeside(t *testing.T) {
	for _, l := range []ledger{{}, full(), {3: some(3), 4: some(4), 11: some(11)}} {
		x := l.tree(t)
		for place := range 16 {
			before, _ := x.Path(place)
			for other := range 16 {
				y := l.tree(t)
				holdSet(t, y, other, account.Account{Name: "changed"}, api.OK)
				after, _ := y.Path(place)
				for height := range after {
					beside := (place>>height)^(other>>height) == 1
					if (after[height] != before[height]) != beside {
						t.Errorf("path of %d at %d, %d changed: %t", place, height, other, !beside)
					}
				}
			}
		}
	}
}

// P15.2: each bit of an account's numbers, each letter of its Name, and its place, change
// the root.
func TestRootHangsOnAccounts(t *testing.T) {
	for _, l := range []ledger{{}, full()} {
		seen := map[api.Hash]int{}
		count := 0
		tell := func(place int, a account.Account) {
			x := l.tree(t)
			holdSet(t, x, place, a, api.OK)
			seen[x.Root()]++
			count++
		}
		for _, place := range []int{0, 6, 9, 15} {
			for bit := range 64 {
				tell(place, account.Account{Name: "bits", Balance: 1 << bit})
			}
			for bit := range 32 {
				tell(place, account.Account{Name: "bits", Nonce: 1 << bit})
			}
			for at := range 8 {
				name := []byte("mnopqrst")
				name[at] = 'a'
				tell(place, account.Account{Name: string(name)})
				if at > 0 {
					tell(place, account.Account{Name: string(name[:at])})
				}
			}
		}
		for place := range 16 {
			tell(place, account.Account{Name: "moved"})
		}
		seen[l.tree(t).Root()]++
		if len(seen) != count+1 {
			t.Errorf("%d roots of %d are unlike", len(seen), count+1)
		}
	}
}

// lead joins a path from a leaf on by the next chapter's words, the lowest bit of the place
// first.
func lead(place int, h api.Hash, p Path) api.Hash {
	for height, beside := range p {
		if place>>height&1 == 0 {
			h = Join(height+1, h, beside)
		} else {
			h = Join(height+1, beside, h)
		}
	}
	return h
}

// P15.3: each path, joined from the leaf on, leads to the root; from another leaf, or to
// another place, it leads elsewhere.
func TestPathLeads(t *testing.T) {
	r := rand.New(rand.NewSource(153))
	led := map[bool]int{}
	for range 300 {
		var l ledger
		chance := r.Intn(17)
		for place := range l {
			if r.Intn(16) < chance {
				l[place] = someone(r)
			}
		}
		x := l.tree(t)
		for place, a := range l {
			p, failed := x.Path(place)
			from := account.None()
			if a.Name != "" {
				from, _ = account.Hash(a)
			}
			led[a.Name != ""]++
			if lead(place, from, p) != x.Root() || failed != api.OK {
				t.Errorf("place %d: the path leads elsewhere, %d", place, failed)
			}
			other := from
			other[r.Intn(32)] ^= 1 << r.Intn(8)
			if lead(place, other, p) == x.Root() {
				t.Errorf("place %d: another leaf leads there, too", place)
			}
			height := r.Intn(4)
			p[height][r.Intn(32)] ^= 1 << r.Intn(8)
			if lead(place, from, p) == x.Root() {
				t.Errorf("place %d: another path leads there, too", place)
			}
		}
	}
	if led[true] < 1000 || led[false] < 1000 {
		t.Errorf("one kind is rare: %v", led)
	}
}

// orders tells all orders of the first n places of a list.
func orders(places []int, n int, tell func([]int)) {
	if n < 2 {
		tell(places)
		return
	}
	for at := range n {
		places[at], places[n-1] = places[n-1], places[at]
		orders(places, n-1, tell)
		places[at], places[n-1] = places[n-1], places[at]
	}
}

// P15.3: the root doesn't hang on the order in which places were set.
func TestRootInAllOrders(t *testing.T) {
	for _, places := range [][]int{{0, 1, 2, 3, 4}, {0, 1, 7, 8, 15}, {5, 6, 9, 10, 12}} {
		var l ledger
		for _, place := range places {
			l[place] = some(place)
		}
		want, count := l.nodes()[4][0], 0
		orders(places, len(places), func(places []int) {
			x := New()
			for _, place := range places {
				holdSet(t, x, place, some(place), api.OK)
			}
			if root := x.Root(); root != want {
				t.Errorf("in the order %v: %x; want %x", places, root, want)
			}
			count++
		})
		if count != 120 {
			t.Errorf("%d orders", count)
		}
	}
}

// P15.3: nor does anything hang on what stood there ahead, on what was dropped again, or on
// what was refused.
func TestRootAfterAll(t *testing.T) {
	r := rand.New(rand.NewSource(154))
	for range 60 {
		var l ledger
		for place := range l {
			if r.Intn(2) == 0 {
				l[place] = someone(r)
			}
		}
		x := New()
		for _, place := range r.Perm(16) {
			holdSet(t, x, place, someone(r), api.OK)
			if r.Intn(2) == 0 {
				x.Root()
			}
		}
		for _, place := range r.Perm(16) {
			holdSet(t, x, place, wrong[r.Intn(len(wrong))], api.ErrArg)
			switch {
			case l[place].Name == "":
				holdDrop(t, x, place, true)
			case r.Intn(2) == 0:
				holdDrop(t, x, place, true)
				holdSet(t, x, place, l[place], api.OK)
			default:
				holdSet(t, x, place, l[place], api.OK)
			}
		}
		hold(t, x, l)
	}
}

// P15.3: what was set and dropped again leaves the root that was there ahead, step by step.
func TestRootThereAndBack(t *testing.T) {
	r := rand.New(rand.NewSource(155))
	for range 40 {
		x, places := New(), r.Perm(16)
		var roots [17]api.Hash
		for i, place := range places {
			roots[i] = x.Root()
			holdSet(t, x, place, someone(r), api.OK)
		}
		roots[16] = x.Root()
		for i := 15; i >= 0; i-- {
			if roots[i] == roots[i+1] {
				t.Errorf("%d accounts have the root of one more", i)
			}
			holdDrop(t, x, places[i], true)
			if root := x.Root(); root != roots[i] {
				t.Errorf("back to %d accounts: %x; want %x", i, root, roots[i])
			}
		}
		hold(t, x, ledger{})
	}
}

// P15.2, R3, R4: what is asked changes nothing and is answered the same again, and an answer
// stays when the tree is changed.
func TestAnswersStay(t *testing.T) {
	l := ledger{2: some(2), 3: some(3), 12: some(12)}
	x := l.tree(t)
	root := x.Root()
	root[0] ^= 255
	var paths [16]Path
	for place := range paths {
		paths[place], _ = x.Path(place)
		for height := range paths[place] {
			paths[place][height][height] ^= 255
		}
	}
	hold(t, x, l)
	hold(t, x, l)
	kept, were := root, paths
	for place := range 16 {
		holdSet(t, x, place, some(15-place), api.OK)
		l[place] = some(15 - place)
	}
	hold(t, x, l)
	if root != kept || paths != were {
		t.Error("what was answered changed")
	}
}
