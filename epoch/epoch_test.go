package epoch

import (
	"crypto/sha256"
	"encoding/hex"
	"fmt"
	"math"
	"testing"

	"almagest/api"
)

const (
	greatest  = math.MaxUint32
	lastFirst = 4294967280 // the first slot of the last epoch
	full      = math.MaxUint32
)

// of tells a digest no two bytes of which are alike, and another one for each number.
func of(n byte) api.Hash {
	var h api.Hash
	for i := range h {
		h[i] = n + byte(7*i)
	}
	return h
}

// running tells the digest whose bytes are a number, and on from it.
func running(n byte) api.Hash {
	var h api.Hash
	for i := range h {
		h[i] = n + byte(i)
	}
	return h
}

// read tells a digest that is written in sixteens.
func read(t *testing.T, text string) api.Hash {
	t.Helper()
	b, err := hex.DecodeString(text)
	if err != nil || len(b) != 32 {
		t.Fatalf("%q is no digest", text)
	}
	return api.Hash(b)
}

// seeded is the seed made of another one and a draw, byte by byte as it is told of.
func seeded(seed, draw api.Hash) api.Hash {
	image := []byte{4, 's', 'e', 'e', 'd', 2, 0, 0, 0, 32}
	image = append(image, seed[:]...)
	image = append(image, 0, 0, 0, 32)
	return sha256.Sum256(append(image, draw[:]...))
}

// some tells data of which all is unlike, and unlike that of another number.
func some(n byte, length uint32) Data {
	return Data{Ledger: of(n), Seed: of(n + 1), Start: of(n + 2), Lock: of(n + 3), Length: length}
}

// mixed tells a pair of which all is unlike, and how many blocks both epochs have.
func mixed(now, next uint32) Pair { return Pair{some(10, now), some(20, next)} }

// block tells a block of which all is unlike what a pair of mixed has.
func block(from, to uint32) Block {
	return Block{From: from, To: to, Prev: of(101), Ledger: of(102), Draw: of(103)}
}

// counted tells the epoch and the place of a slot, by taking epochs away: far off many at
// once, at last one by one.
func counted(s uint32) (epoch, place uint32) {
	left := int64(s)
	for _, leap := range []int64{1 << 20, 1 << 10, 1} {
		for left >= 24*leap {
			left, epoch = left-24*leap, epoch+uint32(leap)
		}
	}
	return epoch, uint32(left)
}

// want tells what a pair must become by a block, a part at a time.
func want(p Pair, b Block) (Pair, api.Errno) {
	if int64(b.To)-int64(b.From) < 1 {
		return Pair{}, api.ErrSlot
	}
	fromEpoch, _ := counted(b.From)
	toEpoch, place := counted(b.To)
	later, locks := toEpoch > fromEpoch, place < 16
	if !later && p.Next.Length == full {
		return Pair{}, api.ErrOver
	}
	out := Pair{p.Now, Data{p.Next.Ledger, p.Next.Seed, p.Next.Start, p.Next.Lock, p.Next.Length + 1}}
	if later {
		out = Pair{p.Next, Data{b.Ledger, p.Next.Seed, b.Prev, api.Hash{}, 1}}
	}
	if locks {
		out.Next.Seed, out.Next.Lock = seeded(p.Next.Seed, b.Draw), b.Prev
	}
	return out, api.OK
}

// hold holds the pair behind a block against what it must be.
func hold(t *testing.T, p Pair, b Block, wanted Pair, wantFailed api.Errno) {
	t.Helper()
	if got, failed := Follow(p, b); got != wanted || failed != wantFailed {
		t.Errorf("from %d to %d, behind %x: %x, %d; want %x, %d", b.From, b.To, p, got, failed, wanted, wantFailed)
	}
}

// P8.2: the chapter's example.
func TestExample(t *testing.T) {
	prev := of(1)
	p, failed := Follow(First(of(2)), Block{From: 0, To: 25, Prev: prev})
	if p.Next.Start != prev || p.Next.Lock != prev || p.Next.Length != 1 || failed != api.OK {
		t.Errorf("%v, %d", p, failed)
	}
}

// P8.1: both data have the ledger, no digest else, and one block.
func TestFirst(t *testing.T) {
	var ones api.Hash
	for i := range ones {
		ones[i] = 255
	}
	for _, ledger := range []api.Hash{{}, {1}, {31: 1}, of(1), of(200), ones} {
		p := First(ledger)
		for _, d := range []Data{p.Now, p.Next} {
			if d.Ledger != ledger || d.Length != 1 {
				t.Errorf("First(%v): %v", ledger, d)
			}
			for _, h := range []api.Hash{d.Seed, d.Start, d.Lock} {
				if h != [32]byte{} {
					t.Errorf("First(%v): %v", ledger, d)
				}
			}
		}
	}
}

// P8.2: a slot that isn't behind From, at it and ahead of it, whatever the epochs are.
func TestSlotErrors(t *testing.T) {
	for _, c := range []struct{ from, to uint32 }{
		{0, 0}, // at it
		{5, 5},
		{16, 16},
		{23, 23},
		{24, 24},
		{1 << 31, 1 << 31},
		{lastFirst, lastFirst},
		{greatest, greatest},
		{1, 0}, // ahead of it, in one epoch
		{5, 4},
		{16, 15},
		{23, 0},
		{47, 24},
		{1<<31 + 1, 1 << 31},
		{greatest, greatest - 1},
		{greatest, lastFirst},
		{24, 23}, // in an epoch ahead
		{24, 0},
		{48, 47},
		{1000, 5},
		{1 << 31, 1<<31 - 1},
		{lastFirst, lastFirst - 1},
		{greatest, 5},
		{greatest, 0},
	} {
		for _, p := range []Pair{{}, First(of(1)), mixed(3, 4)} {
			hold(t, p, block(c.from, c.to), Pair{}, api.ErrSlot)
			hold(t, p, Block{From: c.from, To: c.to}, Pair{}, api.ErrSlot)
		}
	}
}

// P8.2: Next's Length that can't be 1 more, in one epoch, whether the slot is locking or
// not; Now's is of no account.
func TestOverErrors(t *testing.T) {
	for _, c := range []struct{ from, to uint32 }{
		{0, 1},
		{5, 6},
		{0, 15},
		{15, 16},
		{16, 17},
		{0, 23},
		{24, 47},
		{lastFirst, greatest},
		{greatest - 1, greatest},
	} {
		for _, now := range []uint32{0, 1, full - 1, full} {
			hold(t, mixed(now, full), block(c.from, c.to), Pair{}, api.ErrOver)
		}
		hold(t, Pair{Next: Data{Length: full}}, Block{From: c.from, To: c.to}, Pair{}, api.ErrOver)
		hold(t, mixed(full, full), block(c.to, c.from), Pair{}, api.ErrSlot) // both errors: the slot's
		hold(t, mixed(full, full), block(c.to, c.to), Pair{}, api.ErrSlot)
	}
}

// P8.2: in one epoch as many as 2^32 - 1 blocks fit; in a later one it is 1, whatever it was.
func TestLengths(t *testing.T) {
	for _, length := range []uint32{0, 1, 2, 23, 24, 25, 1<<31 - 1, 1 << 31, full - 2, full - 1, full} {
		for _, now := range []uint32{0, 1, full} {
			p := mixed(now, length)
			if got, failed := Follow(p, block(3, 20)); length < full &&
				(got.Next.Length != length+1 || got.Now != p.Now || failed != api.OK) {
				t.Errorf("Length %d, in one epoch: %v, %d", length, got, failed)
			}
			for _, to := range []uint32{24, 40, 60, greatest} {
				if got, failed := Follow(p, block(3, to)); got.Next.Length != 1 || got.Now != p.Next || failed != api.OK {
					t.Errorf("Length %d, in a later epoch: %v, %d", length, got, failed)
				}
			}
		}
	}
}

// P8.2: a block in the same epoch: Now stays, and of Next all but Length, unless the slot
// is locking, which only the later one tells of.
func TestSameEpoch(t *testing.T) {
	was := mixed(3, 4)
	stays := Pair{some(10, 3), some(20, 5)}
	locks := stays
	locks.Next.Seed, locks.Next.Lock = seeded(of(21), of(103)), of(101)
	for _, c := range []struct {
		from, to uint32
		want     Pair
	}{
		{0, 1, locks}, // places up to 15
		{0, 14, locks},
		{0, 15, locks},
		{14, 15, locks},
		{24, 25, locks},
		{24, 39, locks},
		{48, 50, locks},
		{1<<31 - 3, 1 << 31, locks},
		{lastFirst, lastFirst + 1, locks},
		{lastFirst, greatest, locks}, // the greatest slot of all has place 15
		{greatest - 1, greatest, locks},
		{0, 16, stays}, // places from 16 on
		{15, 16, stays},
		{0, 23, stays},
		{15, 23, stays},
		{16, 17, stays},
		{16, 23, stays},
		{22, 23, stays},
		{24, 40, stays},
		{39, 40, stays},
		{24, 47, stays},
		{46, 47, stays},
		{1000, 1007, stays},
		{lastFirst - 8, lastFirst - 1, stays},
		{lastFirst - 9, lastFirst - 8, stays},
	} {
		hold(t, was, block(c.from, c.to), c.want, api.OK)
	}
}

// P8.2: a block in a later epoch: Now is what Next was, and the Seed goes on alone.
func TestLaterEpoch(t *testing.T) {
	was := mixed(3, 4)
	begins := Pair{some(20, 4), Data{Ledger: of(102), Seed: of(21), Start: of(101), Length: 1}}
	locks := begins
	locks.Next.Seed, locks.Next.Lock = seeded(of(21), of(103)), of(101)
	for _, c := range []struct {
		from, to uint32
		want     Pair
	}{
		{23, 24, locks}, // the next one, places up to 15
		{0, 24, locks},
		{0, 25, locks},
		{16, 39, locks},
		{47, 48, locks},
		{lastFirst - 1, lastFirst, locks},
		{lastFirst - 24, greatest, locks},
		{0, 48, locks}, // further off
		{23, 63, locks},
		{5, 1 << 31, locks},
		{0, lastFirst, locks},
		{0, greatest, locks},
		{lastFirst - 1, greatest, locks},
		{0, 40, begins}, // the next one, places from 16 on
		{15, 40, begins},
		{23, 40, begins},
		{16, 47, begins},
		{23, 47, begins},
		{24, 71, begins},
		{lastFirst - 25, lastFirst - 8, begins},
		{lastFirst - 25, lastFirst - 1, begins},
		{0, 64, begins}, // further off
		{15, 71, begins},
		{23, 1000, begins},
		{0, lastFirst - 8, begins},
		{0, lastFirst - 1, begins},
	} {
		hold(t, was, block(c.from, c.to), c.want, api.OK)
	}
}

// P8.2: checkpoints move whether they, or the digests that they move to, are zero, alike
// or neither; a digest tells nothing by what it is.
func TestCheckpointsMove(t *testing.T) {
	few := []api.Hash{{}, of(1), {31: 1}}
	for i := range 3 * 3 * 3 * 3 * 3 {
		pick := func(by int) api.Hash { return few[i/by%3] }
		p := Pair{some(10, 3), Data{Ledger: pick(1), Seed: of(9), Start: pick(1), Lock: pick(3), Length: 4}}
		b := Block{Prev: pick(9), Ledger: pick(27), Draw: pick(81)}
		for _, c := range []struct {
			from, to     uint32
			later, locks bool
		}{{0, 15, false, true}, {0, 16, false, false}, {0, 24, true, true}, {0, 40, true, false}} {
			b.From, b.To = c.from, c.to
			wanted := Pair{p.Now, p.Next}
			wanted.Next.Length = 5
			if c.later {
				wanted = Pair{p.Next, Data{Ledger: b.Ledger, Seed: of(9), Start: b.Prev, Length: 1}}
			}
			if c.locks {
				wanted.Next.Seed, wanted.Next.Lock = seeded(of(9), b.Draw), b.Prev
			}
			hold(t, p, b, wanted, api.OK)
		}
	}
}

// P8.2: seeds written out, that were made by another program; each is of the one ahead.
func TestSeedsWrittenOut(t *testing.T) {
	p := First(of(1))
	for i, c := range []struct {
		to   uint32
		draw byte
		want string
	}{
		{4, 1, "b7827628070177aa51baa92f6c956886e5dbfd8a6fa490b9ed98209e07d1189a"},
		{17, 9, "b7827628070177aa51baa92f6c956886e5dbfd8a6fa490b9ed98209e07d1189a"}, // not locking
		{25, 2, "910b313b2839a2ed34677777c5aba07e5eca21abeff0b46dbe9f0d7896d60f31"}, // a later epoch
		{64, 9, "910b313b2839a2ed34677777c5aba07e5eca21abeff0b46dbe9f0d7896d60f31"},
	} {
		from := []uint32{0, 4, 17, 25}[i]
		next, failed := Follow(p, Block{From: from, To: c.to, Draw: running(c.draw)})
		if next.Next.Seed != read(t, c.want) || failed != api.OK {
			t.Errorf("block %d: %x, %d; want %s", i, next.Next.Seed, failed, c.want)
		}
		p = next
	}
	zero, _ := Follow(First(of(1)), Block{To: 1})
	if zero.Next.Seed != read(t, "1de0a98c2e56635721b52899a09c12a11744c1b46a9c0cbce455ce60dd253c2a") {
		t.Errorf("of no draw: %x", zero.Next.Seed)
	}
	other, _ := Follow(Pair{Next: Data{Seed: running(7)}}, Block{To: 1, Draw: running(9)})
	if other.Next.Seed != read(t, "3b1bb2973a99b989b4e29a8c1586b7a982e3630ff1e2efd9ef3a074e51822250") {
		t.Errorf("of another seed: %x", other.Next.Seed)
	}
}

// P8.2: a draw counts where its slot is locking, each byte of it, and nowhere else; the
// ledger counts where an epoch begins, and nowhere else.
func TestWhatCounts(t *testing.T) {
	p := mixed(3, 4)
	for to := uint32(1); to < 72; to++ {
		b := block(0, to)
		was, _ := Follow(p, b)
		for at := range 32 {
			other := b
			other.Draw[at] ^= 1
			if got, _ := Follow(p, other); (got == was) != (to%24 >= 16) {
				t.Errorf("slot %d: byte %d of the draw: %v; was %v", to, at, got, was)
			}
			other = b
			other.Ledger[at] ^= 128
			if got, _ := Follow(p, other); (got == was) != (to < 24) {
				t.Errorf("slot %d: byte %d of the ledger: %v; was %v", to, at, got, was)
			}
		}
	}
}

// P8.2: from each slot of some epochs to each other one, and about the greatest, against
// what is told a part at a time.
func TestAllSlots(t *testing.T) {
	var all []uint32
	for n := range uint32(100) {
		all = append(all, n, 1<<31-50+n, greatest-n)
	}
	pairs := []Pair{First(of(50)), mixed(3, 4), mixed(full, full-1), mixed(full, full)}
	for _, from := range all {
		for _, to := range all {
			for _, p := range pairs {
				b := block(from, to)
				wanted, wantFailed := want(p, b)
				hold(t, p, b, wanted, wantFailed)
			}
			if t.Failed() {
				return // one fault would be told some hundred thousand times
			}
		}
	}
}

// history is a chain of blocks, from that of slot 0 on: the slots that have a block.
type history []uint32

// prev, ledger and draw are what block n has: its parent's digest, the digest of its
// parent's ledger, and its draw. Block 0 has none of them.
func prev(n int) api.Hash   { return sha256.Sum256([]byte(fmt.Sprint("prev ", n))) }
func ledger(n int) api.Hash { return sha256.Sum256([]byte(fmt.Sprint("ledger ", n))) }
func draw(n int) api.Hash   { return sha256.Sum256([]byte(fmt.Sprint("draw ", n))) }

// made is the data that a whole history makes: counted in it, from its first block on.
func (h history) made() Data {
	last, _ := counted(h[len(h)-1])
	out := Data{Ledger: ledger(0)}
	for n, s := range h {
		epoch, place := counted(s)
		locks := n > 0 && place < 16
		if locks {
			out.Seed = seeded(out.Seed, draw(n))
		}
		if epoch != last {
			continue
		}
		out.Length++
		if out.Length == 1 && n > 0 {
			out.Ledger, out.Start = ledger(n), prev(n)
		}
		if locks {
			out.Lock = prev(n)
		}
	}
	return out
}

// ahead is the history up to the last block of an epoch that is ahead of the last one.
func (h history) ahead() history {
	last, _ := counted(h[len(h)-1])
	for len(h) > 0 {
		if epoch, _ := counted(h[len(h)-1]); epoch != last {
			break
		}
		h = h[:len(h)-1]
	}
	return h
}

// pair is what a whole history makes of the first pair.
func (h history) pair() Pair {
	now := Data{Ledger: ledger(0), Length: 1} // as long as there is no epoch ahead
	if ahead := h.ahead(); len(ahead) > 0 {
		now = ahead.made()
	}
	return Pair{now, h.made()}
}

// holdHistory lets blocks follow in slots behind slot 0, so many slots off each other, and
// holds each pair against what the whole history makes.
func holdHistory(t *testing.T, gaps []uint32) Pair {
	t.Helper()
	p, h := First(ledger(0)), history{0}
	if p != h.pair() {
		t.Fatalf("the first pair: %v", p)
	}
	for i, gap := range gaps {
		n, from := i+1, h[i]
		b := Block{From: from, To: from + gap, Prev: prev(n), Ledger: ledger(n), Draw: draw(n)}
		next, failed := Follow(p, b)
		h = append(h, b.To)
		if wanted := h.pair(); next != wanted || failed != api.OK {
			t.Fatalf("%d: %x, %d; want %x", h, next, failed, wanted)
		}
		p = next
	}
	return p
}

// P8.3: all short histories of gaps within an epoch, of one, and of more.
func TestHistoriesOfGaps(t *testing.T) {
	sizes := []uint32{1, 2, 7, 8, 9, 15, 16, 17, 23, 24, 25, 47, 1 << 20}
	many := len(sizes)
	for n := range many * many * many {
		holdHistory(t, []uint32{sizes[n%many], sizes[n/many%many], sizes[n/many/many]})
	}
}

// P8.3: long histories, each of gaps that come again and again.
func TestHistoriesLong(t *testing.T) {
	for _, turns := range [][]uint32{
		{1}, // every slot has a block
		{2},
		{5},
		{23},
		{24}, // one block an epoch: the same place again and again
		{25},
		{30},
		{16, 8},  // places 16 and 0
		{15, 9},  // places 15 and 0
		{17, 24}, // places that go round, with an epoch's slots between
		{16, 1},
		{1, 1, 1, 40},
		{23, 1},
		{100, 3},
		{7, 1, 1, 9, 60, 2},
	} {
		var gaps []uint32
		for len(gaps) < 150 {
			gaps = append(gaps, turns...)
		}
		holdHistory(t, gaps)
	}
}

// P8.3: epochs without a locking block: their Lock is none, and the Seed goes on unchanged.
func TestHistoryWithoutLocking(t *testing.T) {
	p := holdHistory(t, []uint32{3, 13, 24, 1, 47, 24})
	if p.Next.Lock != (api.Hash{}) || p.Now.Lock != (api.Hash{}) || p.Next.Seed != seeded(api.Hash{}, draw(1)) {
		t.Errorf("%v", p)
	}
	p = holdHistory(t, []uint32{16, 1, 6, 17})
	if p.Next.Seed != (api.Hash{}) || p.Now.Seed != (api.Hash{}) || p.Now.Length != 4 {
		t.Errorf("%v", p)
	}
}

// P8.3: a whole epoch, all of whose slots have a block.
func TestHistoryOfAWholeEpoch(t *testing.T) {
	var gaps []uint32
	for range 48 {
		gaps = append(gaps, 1)
	}
	p := holdHistory(t, gaps)
	if p.Now.Length != 24 || p.Now.Start != prev(24) || p.Now.Lock != prev(39) || p.Now.Ledger != ledger(24) {
		t.Errorf("%v", p.Now)
	}
	if p.Next.Length != 1 || p.Next.Start != prev(48) || p.Next.Lock != prev(48) || p.Next.Ledger != ledger(48) {
		t.Errorf("%v", p.Next)
	}
}

// P8.3: the last slots of all, in a history from slot 0 on.
func TestHistoryUpToTheGreatest(t *testing.T) {
	p := holdHistory(t, []uint32{1, 1, 30, greatest - 32 - 50, 20, 14, 1, 1, 5, 8, 1})
	if p.Next.Length != 5 || p.Next.Start != prev(7) || p.Next.Lock != prev(11) || p.Now.Length != 2 {
		t.Errorf("%v", p)
	}
	if _, failed := Follow(p, block(greatest, greatest)); failed != api.ErrSlot {
		t.Errorf("behind the greatest slot: %d", failed)
	}
}

// R3: a pair and a block that are handed in stay as they were.
func TestArgumentsStay(t *testing.T) {
	for _, to := range []uint32{0, 5, 6, 16, 24, 40, greatest} {
		for _, was := range []Pair{{}, First(of(1)), mixed(3, 4), mixed(full, full)} {
			p, b := was, block(5, to)
			Follow(p, b)
			if p != was || b != block(5, to) {
				t.Errorf("slot %d: %v, %v; was %v", to, p, b, was)
			}
		}
	}
}

// R4, R5: the same calls answer the same, whatever was asked in between.
func TestTheSameAgain(t *testing.T) {
	type question struct {
		p Pair
		b Block
	}
	type answers struct {
		first, next Pair
		failed      api.Errno
	}
	ask := func(q question) answers {
		out := answers{first: First(q.b.Ledger)}
		out.next, out.failed = Follow(q.p, q.b)
		return out
	}
	var all []question
	for _, p := range []Pair{{}, First(of(1)), mixed(3, 4), mixed(full, full)} {
		for _, to := range []uint32{0, 5, 6, 15, 16, 23, 24, 40, 100, greatest} {
			all = append(all, question{p, block(5, to)}, question{p, Block{From: 5, To: to}})
		}
	}
	was := map[question]answers{}
	for _, q := range all {
		was[q] = ask(q)
	}
	for i := range all {
		q := all[len(all)-1-i]
		if got := ask(q); got != was[q] {
			t.Errorf("%v: %v; was %v", q, got, was[q])
		}
	}
}
