package proof

import (
	"crypto/sha256"
	"encoding/binary"
	"encoding/hex"
	"fmt"
	"math"
	"math/rand"
	"testing"

	"almagest/account"
	"almagest/api"
	"almagest/tree"
)

// written tells the digest of hexadecimal digits.
func written(digits string) api.Hash {
	b, err := hex.DecodeString(digits)
	if err != nil || len(b) != 32 {
		panic(digits)
	}
	return api.Hash(b)
}

// imaged tells by the words of an earlier chapter the image of a name and parts.
func imaged(name string, parts ...[]byte) []byte {
	image := append([]byte{byte(len(name))}, name...)
	image = append(image, byte(len(parts)))
	for _, part := range parts {
		image = binary.BigEndian.AppendUint32(image, uint32(len(part)))
		image = append(image, part...)
	}
	return image
}

// sides tells on which side of a place's way the digest so far stands, from the height 1 on:
// 0 where it is the left one.
func sides(place int) [4]byte {
	var told [4]byte
	digits := fmt.Sprintf("%04b", place)
	for at := range told {
		told[at] = digits[3-at] - '0'
	}
	return told
}

// led tells by the chapter's words to which digest a path leads.
func led(place int, leaf api.Hash, p tree.Path) api.Hash {
	side := sides(place)
	for height := 1; height <= 4; height++ {
		pair := [2]api.Hash{p[height-1], p[height-1]}
		pair[side[height-1]] = leaf
		leaf = tree.Join(height, pair[0], pair[1])
		if told := sha256.Sum256(imaged("node", []byte{byte(height)}, pair[0][:], pair[1][:])); leaf != told {
			panic("a node's digest is another one")
		}
	}
	return leaf
}

// beyond has places that no tree has: the nearest ones, far ones, and ones that go round to
// some that there are.
var beyond = []int{
	-1, 16, -2, 17, -15, -16, -17, 31, 32, 255, 256, 261, -251, 1<<16 + 5, 1<<31 - 1, 1 << 31, -1 << 31, 1<<32 - 1,
	1 << 32, 1<<32 + 5, -1<<32 + 5, 1 << 62, math.MaxInt - 1, math.MaxInt, math.MinInt, math.MinInt + 5,
}

// rising tells the path whose digests have the bytes from 0, 40, 80 and 120 on.
func rising() tree.Path {
	var p tree.Path
	for height := range p {
		for at := range p[height] {
			p[height][at] = byte(40*height + at)
		}
	}
	return p
}

// digest tells a digest of chance.
func digest(r *rand.Rand) api.Hash {
	var h api.Hash
	r.Read(h[:])
	return h
}

// path tells a path of chance.
func path(r *rand.Rand) tree.Path {
	var p tree.Path
	for height := range p {
		p[height] = digest(r)
	}
	return p
}

// holdLead holds to which digest a path leads; it tells it.
func holdLead(t *testing.T, place int, leaf api.Hash, p tree.Path, want api.Hash, failed api.Errno) api.Hash {
	t.Helper()
	h, e := Lead(place, leaf, p)
	if h != want || e != failed {
		t.Errorf("%d, %x, %x: %x, %d; want %x, %d", place, leaf, p, h, e, want, failed)
	}
	return h
}

// P16.1: digests that another program made: of each place, from one leaf by one path.
func TestLeadWrittenOut(t *testing.T) {
	leaf := written("e0e1e2e3e4e5e6e7e8e9eaebecedeeeff0f1f2f3f4f5f6f7f8f9fafbfcfdfeff")
	for place, want := range [16]string{
		"d2d6649ac0ae54abbcb557c41b028c2273100bea004f163981dc3a643b80569e",
		"81d84737901f7d5a4da722524a4a6eb341601d34efff2d7988bc32f2564ff4b6",
		"26fdeb21e7e34862ed205ec299596e17271b6ba58af087cc4184462e612b5a42",
		"6bdd55db1d848489445bc63b9306f186ea930a4ddb419c4a26282dd1885df47f",
		"6832627063b8c927e016aa69823e5b5ded63bdd2065354f148a4e7c7149e7399",
		"d4eddba76aebd4f3a8dca60a9b44dc6fdf33006a4b4da598f34b8a6baccb9b73",
		"b8fe2d672b329e381c34ea6ee1a5e642bfa9661b4d2e4b50f9072955fa817e27",
		"0b3187952f2dc7606a4f87e94b0c5e71d512da30e4d331177533456350505cbb",
		"a810d7aeaf08b93c10d2515f200c85eaab2efce54228fc60d62fed92d068d5f2",
		"984e71e6115847517f71d83ae2ae61bb46d24f3344b35fa7733391cd63f055d0",
		"88d1f3dac422d498212b80dd5712b21e5084c5e21c9ece29a56ddf810ff9ffdb",
		"bfaab311f1a0f32759d239b6ba2efb70d1045c6c1a2b88ce76d85962de5e7e68",
		"ba9e1c89f6f1d05516041174ae72f6b409d0a6b4f299256bb34722282dfe094d",
		"e898fae15c48594111d5f972713fd457e63f74f234b86a6a1d21874f51cdddda",
		"f45dab0fc73033135ea1a720d0ca50be947d360238ad7d6c1947cbdadfa46e62",
		"e85c853a564a17a9a6aeb9813e814efe8f2910f6c441ff452d83570f8ca4bb70",
	} {
		holdLead(t, place, leaf, rising(), written(want), api.OK)
	}
	zero, last := "975258805c179ad7d9e214916854abf36237d50497994cda68183009ef86f8e1", "2b32a6e959c7525f68e3794893c0514f9524a0df97682a2dc8c9dc41fe2887c1"
	holdLead(t, 0, api.Hash{}, tree.Path{}, written(zero), api.OK)
	holdLead(t, 15, api.Hash{}, tree.Path{}, written(last), api.OK)
}

// P16.1: the joins of some places, one in the other.
func TestLeadJoinedOut(t *testing.T) {
	leaf, p := api.Hash{1, 2, 3}, rising()
	join := tree.Join
	for place, want := range map[int]api.Hash{
		0:  join(4, join(3, join(2, join(1, leaf, p[0]), p[1]), p[2]), p[3]),
		1:  join(4, join(3, join(2, join(1, p[0], leaf), p[1]), p[2]), p[3]),
		2:  join(4, join(3, join(2, p[1], join(1, leaf, p[0])), p[2]), p[3]),
		4:  join(4, join(3, p[2], join(2, join(1, leaf, p[0]), p[1])), p[3]),
		8:  join(4, p[3], join(3, join(2, join(1, leaf, p[0]), p[1]), p[2])),
		5:  join(4, join(3, p[2], join(2, join(1, p[0], leaf), p[1])), p[3]),
		15: join(4, p[3], join(3, p[2], join(2, p[1], join(1, p[0], leaf)))),
	} {
		holdLead(t, place, leaf, p, want, api.OK)
	}
}

// P16.1: each place, leaves and paths of chance, whose digests are all unlike; each place
// leads elsewhere.
func TestLeadEachPlace(t *testing.T) {
	if api.Accounts != 16 || api.Depth != 4 {
		t.Fatal("the places here are those of trees of 16")
	}
	r := rand.New(rand.NewSource(161))
	for range 200 {
		leaf, p := digest(r), path(r)
		seen := map[api.Hash]int{leaf: 1}
		for _, beside := range p {
			seen[beside]++
		}
		for place := range 16 {
			seen[holdLead(t, place, leaf, p, led(place, leaf, p), api.OK)]++
		}
		if len(seen) != 1+4+16 {
			t.Errorf("%d digests are unlike", len(seen))
		}
	}
}

// P16.1: paths that have some digest twice, or the leaf's.
func TestLeadAlike(t *testing.T) {
	r := rand.New(rand.NewSource(162))
	for range 100 {
		some := [3]api.Hash{digest(r), digest(r), {}}
		leaf := some[r.Intn(3)]
		var p tree.Path
		for height := range p {
			p[height] = some[r.Intn(3)]
		}
		for place := range 16 {
			holdLead(t, place, leaf, p, led(place, leaf, p), api.OK)
		}
	}
	// Above the height 1 the way's own digest is never that beside it: so here, too, each place
	// leads elsewhere, but for its lowest bit.
	seen := map[api.Hash]int{}
	for place := range 16 {
		h, _ := Lead(place, api.Hash{7}, tree.Path{{7}, {7}, {7}, {7}})
		seen[h]++
	}
	if len(seen) != 8 {
		t.Errorf("%d digests are unlike", len(seen))
	}
}

// P16.1, R2: places that there aren't.
func TestLeadNoPlace(t *testing.T) {
	r := rand.New(rand.NewSource(163))
	for _, place := range beyond {
		holdLead(t, place, api.Hash{}, tree.Path{}, api.Hash{}, api.ErrArg)
		holdLead(t, place, digest(r), path(r), api.Hash{}, api.ErrArg)
		holdLead(t, place, account.None(), rising(), api.Hash{}, api.ErrArg)
	}
	for range 1000 {
		place := int(r.Uint64() >> r.Intn(64))
		if r.Intn(2) == 0 {
			place = -place
		}
		leaf, p := digest(r), path(r)
		if place >= 0 && place < 16 {
			holdLead(t, place, leaf, p, led(place, leaf, p), api.OK)
		} else {
			holdLead(t, place, leaf, p, api.Hash{}, api.ErrArg)
		}
	}
}

// P16.1: each bit of the leaf, and of each of the path's digests, turned: all lead elsewhere.
func TestLeadTurned(t *testing.T) {
	leaf, p := api.Hash{200, 100, 50}, rising()
	seen, count := map[api.Hash]int{}, 0
	tell := func(place int, leaf api.Hash, p tree.Path) {
		seen[holdLead(t, place, leaf, p, led(place, leaf, p), api.OK)]++
		count++
	}
	for place := range 16 {
		tell(place, leaf, p)
		for bit := range 256 {
			turned := leaf
			turned[bit/8] ^= 1 << (bit % 8)
			tell(place, turned, p)
			for height := range p {
				turned := p
				turned[height][bit/8] ^= 1 << (bit % 8)
				tell(place, leaf, turned)
			}
		}
	}
	if count != 16*(1+5*256) || len(seen) != count {
		t.Errorf("%d digests of %d are unlike", len(seen), count)
	}
}

// P16.1: a path's digests in another order lead elsewhere.
func TestLeadOrder(t *testing.T) {
	leaf, p := api.Hash{9}, rising()
	for place := range 16 {
		seen := map[api.Hash]int{}
		for order := range 256 {
			other := tree.Path{p[order&3], p[order>>2&3], p[order>>4&3], p[order>>6]}
			seen[holdLead(t, place, leaf, other, led(place, leaf, other), api.OK)]++
		}
		if len(seen) != 256 {
			t.Errorf("place %d: %d digests are unlike", place, len(seen))
		}
	}
}

// P16.1, R3, R4: an answer stays, and is told again, whatever is done with what was handed in.
func TestLeadAgain(t *testing.T) {
	leaf, p := api.Hash{1}, rising()
	first, _ := Lead(6, leaf, p)
	kept := first
	p[2][2] ^= 255
	leaf[0]++
	first[0] ^= 255
	if second, failed := Lead(6, api.Hash{1}, rising()); second != kept || failed != api.OK {
		t.Errorf("%x, %d; want %x", second, failed, kept)
	}
}
