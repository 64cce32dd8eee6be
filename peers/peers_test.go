package peers

import (
	"math"
	"math/rand"
	"slices"
	"testing"

	"almagest/api"
)

// never is the greatest time.
const never = math.MaxUint64

// table makes one with room.
func table(t *testing.T, room int) *Table {
	t.Helper()
	x, failed := New(room)
	if x == nil || failed != api.OK {
		t.Fatalf("room %d: %v, %d", room, x, failed)
	}
	return x
}

// joined makes a table with room, to which peers join at the time 0.
func joined(t *testing.T, room int, ids ...int) *Table {
	t.Helper()
	x := table(t, room)
	for _, id := range ids {
		holdJoin(t, x, id, 0, api.OK)
	}
	return x
}

// row tells the numbers from one on to ahead of another.
func row(from, to int) []int {
	var all []int
	for n := from; n < to; n++ {
		all = append(all, n)
	}
	return all
}

// fresh tells peers of Ids, with the Score 0, that aren't banned.
func fresh(ids ...int) []Peer {
	var all []Peer
	for _, id := range ids {
		all = append(all, Peer{Id: id})
	}
	return all
}

// holdJoin holds what Join answers.
func holdJoin(t *testing.T, x *Table, id int, now uint64, want api.Errno) {
	t.Helper()
	if failed := x.Join(id, now); failed != want {
		t.Errorf("join %d at %d: %d; want %d", id, now, failed, want)
	}
}

// holdLeave holds what Leave answers.
func holdLeave(t *testing.T, x *Table, id int, now uint64, want api.Errno) {
	t.Helper()
	if failed := x.Leave(id, now); failed != want {
		t.Errorf("leave %d at %d: %d; want %d", id, now, failed, want)
	}
}

// holdMay holds what May answers.
func holdMay(t *testing.T, x *Table, id int, now uint64, want api.Errno) {
	t.Helper()
	if failed := x.May(id, now); failed != want {
		t.Errorf("may %d at %d: %d; want %d", id, now, failed, want)
	}
}

// holdBlame holds what Blame answers.
func holdBlame(t *testing.T, x *Table, id, points int, now uint64, want bool, wrong api.Errno) {
	t.Helper()
	if banned, failed := x.Blame(id, points, now); banned != want || failed != wrong {
		t.Errorf("blame %d %d at %d: %t, %d; want %t, %d", id, points, now, banned, failed, want, wrong)
	}
}

// holdList holds what List answers, and that no more is kept.
func holdList(t *testing.T, x *Table, now uint64, want ...Peer) {
	t.Helper()
	if all := x.List(now); !slices.Equal(all, want) {
		t.Errorf("list at %d: %v; want %v", now, all, want)
	}
	if len(x.peers) != len(want) {
		t.Errorf("%d peers are kept; want %d", len(x.peers), len(want))
	}
}

// ban lets a peer be banned from a time on.
func ban(t *testing.T, x *Table, id int, now uint64) {
	t.Helper()
	holdBlame(t, x, id, api.BanScore, now, true, api.OK)
}

// P20.3: the chapter's example.
func TestExample(t *testing.T) {
	x := joined(t, 6, 1)
	holdBlame(t, x, 1, 10, 5, true, api.OK)
	holdMay(t, x, 1, 24, api.ErrBan)
	holdMay(t, x, 1, 25, api.OK)
	holdList(t, x, 25, Peer{Id: 1})
}

// P20.1: rooms that may not be: the nearest ones, and ones that go round to some that may.
func TestNewOfWrongRooms(t *testing.T) {
	for _, room := range []int{
		0, -1, -2, -6, -99, -100, -101, 101, 102, 127, 128, 200, 255, 256, 257, 356, -255, -156, 1<<16 + 1, 1<<31 - 1, 1 << 31,
		-1 << 31, 1<<32 - 1, 1 << 32, 1<<32 + 1, 1<<32 + 100, -1<<32 + 1, 1 << 62,
		math.MaxInt, math.MaxInt - 1, math.MinInt, math.MinInt + 1, math.MinInt + 100,
	} {
		if x, failed := New(room); x != nil || failed != api.ErrArg {
			t.Errorf("room %d: %v, %d", room, x, failed)
		}
	}
}

// P20.1, P20.2: each room that may be has room for so many peers, and for no more.
func TestNewOfEachRoom(t *testing.T) {
	for room := 1; room <= 100; room++ {
		x := table(t, room)
		holdList(t, x, 0)
		for n := range room {
			holdJoin(t, x, n, 0, api.OK)
			holdList(t, x, 0, fresh(row(0, n+1)...)...)
		}
		for n := range 3 {
			holdJoin(t, x, room+n, 0, api.ErrFull)
		}
		holdList(t, x, 0, fresh(row(0, room)...)...)
		holdLeave(t, x, room/2, 0, api.OK)
		holdJoin(t, x, room, 0, api.OK)
		holdJoin(t, x, room/2, 0, api.ErrFull)
	}
}

// P20.1: tables that are empty, half full and just full, and have been so again.
func TestList(t *testing.T) {
	for _, room := range []int{1, 2, 3, 6, 99, 100} {
		x := table(t, room)
		for range 2 {
			holdList(t, x, 0)
			for n := range room {
				holdJoin(t, x, room-n, 0, api.OK)
				if n == room/2 || n == room-1 {
					holdList(t, x, 0, fresh(row(room-n, room+1)...)...)
				}
			}
			for n := range room {
				holdLeave(t, x, 1+n, 0, api.OK)
				holdList(t, x, 0, fresh(row(2+n, room+1)...)...)
			}
		}
	}
}

// P20.1: Ids rise in whatever order the peers joined: all orders of five, the least and the
// greatest number among them.
func TestListOfAllOrders(t *testing.T) {
	ids := []int{0, 1, 256, math.MaxInt - 1, math.MaxInt}
	for turn := range 120 {
		x := table(t, 5)
		left := slices.Clone(ids)
		for many := 5; many > 0; many-- {
			at := turn % many
			turn /= many
			holdJoin(t, x, left[at], 0, api.OK)
			left = slices.Delete(left, at, at+1)
		}
		holdList(t, x, 0, fresh(ids...)...)
	}
}

// P20.1: Ids rise in whatever order the peers joined, and whatever their Scores and bans are:
// Ids of chance, as many as there is room for.
func TestListOfChance(t *testing.T) {
	r := rand.New(rand.NewSource(201))
	for _, room := range []int{1, 2, 7, 8, 9, 31, 100} {
		for range 30 {
			x := table(t, room)
			var want []Peer
			for len(want) < room {
				id := r.Int() >> r.Intn(60)
				if slices.ContainsFunc(want, func(p Peer) bool { return p.Id == id }) {
					continue
				}
				holdJoin(t, x, id, 9, api.OK)
				p := Peer{Id: id, Score: r.Intn(api.BanScore)}
				holdBlame(t, x, id, p.Score, 9, false, api.OK)
				if r.Intn(3) == 0 {
					ban(t, x, id, 9)
					p.Score, p.Until = 0, 29
				}
				want = append(want, p)
			}
			slices.SortFunc(want, func(a, b Peer) int {
				if a.Id < b.Id {
					return -1
				}
				return 1
			})
			holdList(t, x, 9, want...)
		}
	}
}

// P20.2: Ids below 0 don't join, wherever there is room, and nothing is changed.
func TestJoinBelowNought(t *testing.T) {
	for _, id := range []int{-1, -2, -5, -100, -256, -1 << 31, -1 << 32, -1<<32 + 5, math.MinInt, math.MinInt + 1, math.MinInt + 5} {
		x := joined(t, 2, 5)
		holdJoin(t, x, id, 0, api.ErrArg)
		holdList(t, x, 0, fresh(5)...)
		holdJoin(t, x, 7, 0, api.OK)
		// Of one below 0 in a full table ErrArg comes first.
		holdJoin(t, x, id, 0, api.ErrArg)
		holdJoin(t, x, 9, 0, api.ErrFull)
		holdList(t, x, 0, fresh(5, 7)...)
		holdMay(t, x, id, 0, api.ErrName)
		holdLeave(t, x, id, 0, api.ErrName)
		holdBlame(t, x, id, 1, 0, false, api.ErrName)
		holdList(t, x, 0, fresh(5, 7)...)
	}
}

// P20.2: one that is there joins no more, with room and without, and keeps its Score; one that
// is banned is ErrBan.
func TestJoinOfOneThatIsThere(t *testing.T) {
	for _, room := range []int{2, 3} {
		for _, id := range []int{0, 1, 77, math.MaxInt} {
			x := joined(t, room, id, 50)
			holdJoin(t, x, id, 1, api.ErrTwice)
			holdBlame(t, x, id, 9, 1, false, api.OK)
			holdJoin(t, x, id, 2, api.ErrTwice)
			holdMay(t, x, id, 2, api.OK)
			holdBlame(t, x, id, 1, 2, true, api.OK)
			holdJoin(t, x, id, 3, api.ErrBan)
			holdJoin(t, x, id, 21, api.ErrBan)
			holdJoin(t, x, 50, 21, api.ErrTwice)
			holdJoin(t, x, id, 22, api.ErrTwice)
			holdList(t, x, 22, sorted(fresh(id, 50))...)
		}
	}
}

// sorted tells two peers by their Ids, rising.
func sorted(two []Peer) []Peer {
	if two[0].Id > two[1].Id {
		return []Peer{two[1], two[0]}
	}
	return two
}

// P20.2: one that has left and comes again comes with Score 0, with room; without room it is
// ErrFull, as any other one is.
func TestJoinOfOneThatHasLeft(t *testing.T) {
	for _, id := range []int{0, 3, math.MaxInt} {
		x := joined(t, 2, id)
		for range 3 {
			holdBlame(t, x, id, 9, 1, false, api.OK)
			holdLeave(t, x, id, 1, api.OK)
			holdList(t, x, 1)
			holdJoin(t, x, id, 1, api.OK)
			holdList(t, x, 1, Peer{Id: id})
		}
		holdLeave(t, x, id, 2, api.OK)
		holdJoin(t, x, 10, 2, api.OK)
		holdJoin(t, x, 11, 2, api.OK)
		holdJoin(t, x, id, 2, api.ErrFull)
		holdList(t, x, 2, fresh(10, 11)...)
		holdLeave(t, x, 11, 2, api.OK)
		holdJoin(t, x, id, 2, api.OK)
		holdList(t, x, 2, sorted(fresh(id, 10))...)
	}
}

// P20.2: one that was banned, whose ban has ended, leaves, and comes again as any other one.
func TestJoinOfOneThatWasBanned(t *testing.T) {
	x := joined(t, 1, 4)
	ban(t, x, 4, 0)
	holdLeave(t, x, 4, 19, api.ErrBan)
	holdLeave(t, x, 4, 20, api.OK)
	holdList(t, x, 20)
	holdMay(t, x, 4, 20, api.ErrName)
	holdJoin(t, x, 4, 20, api.OK)
	holdMay(t, x, 4, 0, api.OK)
	holdList(t, x, 0, Peer{Id: 4})
}

// P20.2: a peer that is banned takes up its room.
func TestBannedTakesUpRoom(t *testing.T) {
	x := joined(t, 2, 1, 2)
	ban(t, x, 1, 0)
	holdJoin(t, x, 3, 5, api.ErrFull)
	holdJoin(t, x, 1, 5, api.ErrBan)
	holdLeave(t, x, 2, 5, api.OK)
	holdJoin(t, x, 3, 5, api.OK)
	holdJoin(t, x, 2, 5, api.ErrFull)
	holdList(t, x, 5, Peer{Id: 1, Until: 20}, Peer{Id: 3})
	holdJoin(t, x, 2, 20, api.ErrFull)
	holdLeave(t, x, 1, 20, api.OK)
	holdJoin(t, x, 2, 20, api.OK)
	holdList(t, x, 20, fresh(2, 3)...)
}

// P20.2: Leave of one that is there, that isn't, that was, that is banned.
func TestLeave(t *testing.T) {
	for _, id := range []int{0, 1, 1 << 32, math.MaxInt} {
		x := table(t, 3)
		holdLeave(t, x, id, 0, api.ErrName)
		holdJoin(t, x, 2, 0, api.OK)
		holdLeave(t, x, id, 0, api.ErrName)
		holdJoin(t, x, id, 0, api.OK)
		holdLeave(t, x, id, 0, api.OK)
		holdLeave(t, x, id, 0, api.ErrName)
		holdList(t, x, 0, fresh(2)...)
		holdJoin(t, x, id, 1, api.OK)
		ban(t, x, id, 1)
		for now := uint64(1); now < 21; now++ {
			holdLeave(t, x, id, now, api.ErrBan)
		}
		holdList(t, x, 20, sorted([]Peer{{Id: id, Until: 21}, {Id: 2}})...)
		holdLeave(t, x, 2, 20, api.OK)
		holdLeave(t, x, id, 21, api.OK)
		holdLeave(t, x, id, 21, api.ErrName)
		holdList(t, x, 21)
	}
}

// P20.2: May of one that is there, that isn't, that was, that is banned; it changes nothing.
func TestMay(t *testing.T) {
	for _, id := range []int{0, 1, 1 << 32, math.MaxInt} {
		x := table(t, 2)
		holdMay(t, x, id, 0, api.ErrName)
		holdList(t, x, 0)
		holdJoin(t, x, id, 0, api.OK)
		holdMay(t, x, id, 0, api.OK)
		holdMay(t, x, id^1<<8, 0, api.ErrName)
		holdBlame(t, x, id, 7, 0, false, api.OK)
		for range 3 {
			holdMay(t, x, id, 0, api.OK)
			holdList(t, x, 0, Peer{Id: id, Score: 7})
		}
		ban(t, x, id, 3)
		for now := range uint64(23) {
			holdMay(t, x, id, now, api.ErrBan)
			holdList(t, x, now, Peer{Id: id, Until: 23})
		}
		holdMay(t, x, id, 23, api.OK)
		holdLeave(t, x, id, 23, api.OK)
		holdMay(t, x, id, 23, api.ErrName)
	}
}

// wrongPoints are points that may not be.
var wrongPoints = []int{
	-1, -2, -10, -100, 101, 102, 110, 127, 128, 256, 266, -246, 1<<31 - 1, 1 << 31, -1 << 31, 1 << 32, 1<<32 + 1, 1<<32 + 10,
	-1<<32 + 10, 1 << 62, math.MaxInt, math.MaxInt - 1, math.MinInt, math.MinInt + 1, math.MinInt + 10,
}

// P20.3: points that may not be are ErrArg, ahead of all else, and change nothing.
func TestBlameOfWrongPoints(t *testing.T) {
	for _, points := range wrongPoints {
		x := joined(t, 3, 0, 1)
		holdBlame(t, x, 0, 9, 4, false, api.OK)
		ban(t, x, 1, 4)
		for _, id := range []int{0, 1, 2, -1, math.MaxInt, math.MinInt} {
			holdBlame(t, x, id, points, 5, false, api.ErrArg)
		}
		holdList(t, x, 5, Peer{Id: 0, Score: 9}, Peer{Id: 1, Until: 24})
	}
}

// P20.3: all points that may be, of one that isn't there, and of one that is banned.
func TestBlameOfWrongPeers(t *testing.T) {
	for points := range 101 {
		x := joined(t, 4, 0, 1, 3)
		holdLeave(t, x, 3, 0, api.OK)
		ban(t, x, 1, 0)
		for _, id := range []int{2, 3, -1, math.MinInt, math.MaxInt, 1 << 32} {
			holdBlame(t, x, id, points, 7, false, api.ErrName)
		}
		holdBlame(t, x, 1, points, 7, false, api.ErrBan)
		holdBlame(t, x, 1, points, 19, false, api.ErrBan)
		holdList(t, x, 19, Peer{Id: 0}, Peer{Id: 1, Until: 20})
	}
}

// P20.3: all points that may be, of each Score that there may be, and of no other peer.
func TestBlameOfAllPoints(t *testing.T) {
	for score := range api.BanScore {
		for points := range 101 {
			x := joined(t, 3, 4, 5, 6)
			holdBlame(t, x, 5, score, 30, false, api.OK)
			holdList(t, x, 30, Peer{Id: 4}, Peer{Id: 5, Score: score}, Peer{Id: 6})
			if score+points < 10 {
				holdBlame(t, x, 5, points, 33, false, api.OK)
				holdList(t, x, 33, Peer{Id: 4}, Peer{Id: 5, Score: score + points}, Peer{Id: 6})
				holdMay(t, x, 5, 33, api.OK)
			} else {
				holdBlame(t, x, 5, points, 33, true, api.OK)
				holdList(t, x, 33, Peer{Id: 4}, Peer{Id: 5, Until: 53}, Peer{Id: 6})
				holdMay(t, x, 5, 33, api.ErrBan)
			}
		}
	}
}

// P20.3: many blames come to BanScore, or beyond it, as one does; what is told of each.
func TestManyBlames(t *testing.T) {
	for _, points := range []int{1, 2, 3, 4, 5, 6, 9, 10, 11, 100} {
		x := joined(t, 1, 8)
		score, now := 0, uint64(100)
		for score+points < 10 {
			score += points
			now++
			holdBlame(t, x, 8, points, now, false, api.OK)
			holdBlame(t, x, 8, 0, now, false, api.OK)
			holdList(t, x, now, Peer{Id: 8, Score: score})
		}
		now++
		holdBlame(t, x, 8, points, now, true, api.OK)
		holdList(t, x, now, Peer{Id: 8, Until: now + 20})
		holdBlame(t, x, 8, points, now, false, api.ErrBan)
		holdList(t, x, now, Peer{Id: 8, Until: now + 20})
	}
}

// P20.3: a Score stays as long as no ban ends it, however late it is.
func TestScoreStays(t *testing.T) {
	x := joined(t, 2, 1, 2)
	holdBlame(t, x, 1, 9, 0, false, api.OK)
	for _, now := range []uint64{0, 1, 20, 21, 1 << 32, 1 << 63, never, 0} {
		holdMay(t, x, 1, now, api.OK)
		holdBlame(t, x, 2, 0, now, false, api.OK)
		holdJoin(t, x, 3, now, api.ErrFull)
		holdLeave(t, x, 3, now, api.ErrName)
		holdList(t, x, now, Peer{Id: 1, Score: 9}, Peer{Id: 2})
	}
	holdBlame(t, x, 1, 1, 6, true, api.OK)
	holdList(t, x, 6, Peer{Id: 1, Until: 26}, Peer{Id: 2})
}

// R3: what List answered stays as it was when the table is changed afterwards, also behind its
// end.
func TestListStays(t *testing.T) {
	for _, room := range []int{1, 2, 3, 6, 100} {
		x := joined(t, room, row(0, (room+1)/2)...)
		holdBlame(t, x, 0, 4, 0, false, api.OK)
		want := fresh(row(0, (room+1)/2)...)
		want[0].Score = 4
		all := x.List(0)
		behind := slices.Clone(all[:cap(all)])
		ban(t, x, 0, 3)
		for n := range room {
			x.Join(n, 3)
			x.Blame(n, 5, 3)
		}
		for n := range room {
			x.Leave(n, 23)
		}
		holdList(t, x, 23)
		if !slices.Equal(all, want) || !slices.Equal(all[:cap(all)], behind) {
			t.Errorf("room %d: %v", room, all)
		}
	}
}

// R3: a table, and another answer, stay as they were when what List answered is written to,
// also behind its end.
func TestTableStays(t *testing.T) {
	for _, room := range []int{1, 2, 3, 6, 100} {
		x := joined(t, room, row(0, room)...)
		ban(t, x, 0, 3)
		want := fresh(row(0, room)...)
		want[0].Until = 23
		other, all := x.List(4), x.List(4)
		all = all[:cap(all)]
		for i := range all {
			all[i] = Peer{Id: 900 + i, Score: 9, Until: 9}
		}
		holdList(t, x, 4, want...)
		if !slices.Equal(other, want) {
			t.Errorf("room %d: another answer is %v", room, other)
		}
		for n := 1; n < room; n++ {
			holdMay(t, x, n, 5, api.OK)
			holdBlame(t, x, n, 9, 5, false, api.OK)
		}
		holdMay(t, x, 0, 22, api.ErrBan)
		holdMay(t, x, 900, 22, api.ErrName)
	}
}

// R5: two tables know nothing of each other.
func TestTwoTables(t *testing.T) {
	one, other := table(t, 1), table(t, 2)
	holdJoin(t, one, 1, 0, api.OK)
	holdMay(t, other, 1, 0, api.ErrName)
	holdList(t, other, 0)
	holdJoin(t, other, 1, 0, api.OK)
	holdBlame(t, one, 1, 10, 0, true, api.OK)
	holdMay(t, other, 1, 0, api.OK)
	holdBlame(t, other, 1, 3, 0, false, api.OK)
	holdJoin(t, one, 2, 0, api.ErrFull)
	holdJoin(t, other, 2, 0, api.OK)
	// A time that one of them is told ends no ban of the other one.
	holdList(t, other, 500, Peer{Id: 1, Score: 3}, Peer{Id: 2})
	holdList(t, one, 19, Peer{Id: 1, Until: 20})
	holdLeave(t, other, 1, 19, api.OK)
	holdLeave(t, one, 1, 19, api.ErrBan)
	holdList(t, one, 20, fresh(1)...)
	holdList(t, other, 20, fresh(2)...)
	holdList(t, table(t, 2), 20)
}
