package peers

import (
	"testing"

	"almagest/api"
)

// way is a call that is told the time, and what it answers: of a table with the peers 1, 2 and
// 3 and no room, of which 1 is banned with a time as its end, or was just ahead of that call.
type way struct {
	name string
	// call answers whether a peer is banned by it, and its error.
	call func(x *Table, now uint64) (bool, api.Errno)
	// while is its error as long as 1 is banned, behind its error as soon as 1 isn't.
	while, behind api.Errno
	// gone, score: whether 1 isn't there behind the call, and its Score, if it isn't banned.
	gone  bool
	score int
}

// blames makes a call of Blame.
func blames(id, points int) func(x *Table, now uint64) (bool, api.Errno) {
	return func(x *Table, now uint64) (bool, api.Errno) { return x.Blame(id, points, now) }
}

// asks makes a call of a function that is told an Id and the time.
func asks(ask func(x *Table, id int, now uint64) api.Errno, id int) func(x *Table, now uint64) (bool, api.Errno) {
	return func(x *Table, now uint64) (bool, api.Errno) { return false, ask(x, id, now) }
}

// ways makes one of each function, about the peer 1, about others, and of arguments that may
// not be.
func ways() []way {
	list := func(x *Table, now uint64) (bool, api.Errno) {
		x.List(now)
		return false, api.OK
	}
	return []way{
		{name: "join 1", call: asks((*Table).Join, 1), while: api.ErrBan, behind: api.ErrTwice},
		{name: "leave 1", call: asks((*Table).Leave, 1), while: api.ErrBan, behind: api.OK, gone: true},
		{name: "may 1", call: asks((*Table).May, 1), while: api.ErrBan, behind: api.OK},
		{name: "blame 1 0", call: blames(1, 0), while: api.ErrBan, behind: api.OK},
		{name: "blame 1 9", call: blames(1, 9), while: api.ErrBan, behind: api.OK, score: 9},
		{name: "list", call: list},
		{name: "join 2", call: asks((*Table).Join, 2), while: api.ErrTwice, behind: api.ErrTwice},
		{name: "may 2", call: asks((*Table).May, 2)},
		{name: "blame 2 5", call: blames(2, 5)},
		{name: "join 9", call: asks((*Table).Join, 9), while: api.ErrFull, behind: api.ErrFull},
		{name: "leave 9", call: asks((*Table).Leave, 9), while: api.ErrName, behind: api.ErrName},
		{name: "may 9", call: asks((*Table).May, 9), while: api.ErrName, behind: api.ErrName},
		{name: "blame 9 5", call: blames(9, 5), while: api.ErrName, behind: api.ErrName},
		{name: "join -1", call: asks((*Table).Join, -1), while: api.ErrArg, behind: api.ErrArg},
		{name: "leave -1", call: asks((*Table).Leave, -1), while: api.ErrName, behind: api.ErrName},
		{name: "may -1", call: asks((*Table).May, -1), while: api.ErrName, behind: api.ErrName},
		{name: "blame 1 -1", call: blames(1, -1), while: api.ErrArg, behind: api.ErrArg},
		{name: "blame 1 101", call: blames(1, 101), while: api.ErrArg, behind: api.ErrArg},
		{name: "blame 2 -1", call: blames(2, -1), while: api.ErrArg, behind: api.ErrArg},
		{name: "blame -1 101", call: blames(-1, 101), while: api.ErrArg, behind: api.ErrArg},
	}
}

// one tells a peer as the table has it, without a call that ends its ban, and whether it is there.
func one(x *Table, id int) (Peer, bool) {
	if p, there := x.peers[id]; there {
		return *p, true
	}
	return Peer{}, false
}

// holdOne holds one as the table has it.
func holdOne(t *testing.T, x *Table, want Peer) {
	t.Helper()
	if p, there := one(x, want.Id); !there || p != want {
		t.Errorf("%v, %t; want %v", p, there, want)
	}
}

// begins are times at which a ban begins, the first one and the last one whose end is no
// greatest time, or just is it, among them.
var begins = []uint64{0, 1, 5, 19, 20, 21, 1<<32 - 20, 1<<32 - 1, 1 << 63, never - 40, never - 22, never - 21, never - 20}

// P20.2, P20.3: a ban ends just at its time, and not before, by each call that is told the
// time, whatever else it is told.
func TestBanEnds(t *testing.T) {
	for _, w := range ways() {
		for _, begin := range begins {
			until := begin + 20
			for _, now := range []uint64{0, begin, until - 2, until - 1} {
				x := joined(t, 3, 3, 1, 2)
				holdBlame(t, x, 1, 100, begin, true, api.OK)
				if banned, failed := w.call(x, now); banned || failed != w.while {
					t.Errorf("%s at %d, banned till %d: %t, %d; want %d", w.name, now, until, banned, failed, w.while)
				}
				holdOne(t, x, Peer{Id: 1, Until: until})
				holdMay(t, x, 1, 0, api.ErrBan)
			}
			for _, now := range []uint64{until, min(until, never-1) + 1, min(until, never-20) + 20, never} {
				x := joined(t, 3, 3, 1, 2)
				holdBlame(t, x, 1, 10, begin, true, api.OK)
				if banned, failed := w.call(x, now); banned || failed != w.behind {
					t.Errorf("%s at %d, banned till %d: %t, %d; want %d", w.name, now, until, banned, failed, w.behind)
				}
				if w.gone {
					holdMay(t, x, 1, 0, api.ErrName)
					continue
				}
				holdOne(t, x, Peer{Id: 1, Score: w.score})
				holdMay(t, x, 1, 0, api.OK)
			}
		}
	}
}

// P20.3: a peer whose ban has ended has the Score 0, and is blamed, and banned, as any other.
func TestBlameBehindBan(t *testing.T) {
	for _, points := range []int{0, 1, 9} {
		x := joined(t, 2, 1)
		holdBlame(t, x, 1, 9, 0, false, api.OK)
		holdBlame(t, x, 1, 9, 1, true, api.OK)
		holdBlame(t, x, 1, points, 20, false, api.ErrBan)
		holdBlame(t, x, 1, points, 21, false, api.OK)
		holdList(t, x, 21, Peer{Id: 1, Score: points})
		holdBlame(t, x, 1, 9-points, 22, false, api.OK)
		holdBlame(t, x, 1, 1, 23, true, api.OK)
		holdList(t, x, 42, Peer{Id: 1, Until: 43})
		holdList(t, x, 43, Peer{Id: 1})
	}
}

// P20.3: a blame that ends a ban may begin the next one.
func TestBanBehindBan(t *testing.T) {
	x := joined(t, 1, 1)
	for _, now := range []uint64{0, 20, 40, 61, 81, 1000, never - 20, never, never} {
		holdBlame(t, x, 1, 10, now, true, api.OK)
		holdOne(t, x, Peer{Id: 1, Until: min(now, never-20) + 20})
	}
}

// P20.3: the ban of a time lasts till BanTime later, or till the greatest time, where there is
// none such; at that one it ends.
func TestBanByTheGreatestTime(t *testing.T) {
	for ahead := range uint64(50) {
		now := never - ahead
		want := uint64(never)
		if ahead >= 20 {
			want = never - (ahead - 20)
		}
		x := joined(t, 2, 1)
		holdBlame(t, x, 1, 10, now, true, api.OK)
		holdOne(t, x, Peer{Id: 1, Until: want})
		holdMay(t, x, 1, want-1, api.ErrBan)
		holdLeave(t, x, 1, want-1, api.ErrBan)
		holdList(t, x, want-1, Peer{Id: 1, Until: want})
		holdJoin(t, x, 2, want-1, api.OK)
		holdMay(t, x, 1, want, api.OK)
		holdList(t, x, want, fresh(1, 2)...)
	}
}

// P20.2: a ban that begins at the greatest time has ended in the next call at that time, but
// not in one ahead of it.
func TestBanAtTheGreatestTime(t *testing.T) {
	x := joined(t, 1, 1)
	for range 3 {
		holdBlame(t, x, 1, 10, never, true, api.OK)
		holdMay(t, x, 1, never-1, api.ErrBan)
		holdMay(t, x, 1, never, api.OK)
		holdList(t, x, never, Peer{Id: 1})
	}
}

// P20.2: several bans that end at one time end in one call; those that end later stay.
func TestSeveralBansAtOneTime(t *testing.T) {
	for _, w := range ways() {
		x := joined(t, 3, 1, 2, 3)
		ban(t, x, 1, 4)
		ban(t, x, 2, 4)
		ban(t, x, 3, 5)
		w.call(x, 23)
		holdOne(t, x, Peer{Id: 1, Until: 24})
		holdOne(t, x, Peer{Id: 2, Until: 24})
		w.call(x, 24)
		if p, _ := one(x, 1); p.Until != 0 {
			t.Errorf("%s: 1 is banned till %d", w.name, p.Until)
		}
		if p, _ := one(x, 2); p.Until != 0 {
			t.Errorf("%s: 2 is banned till %d", w.name, p.Until)
		}
		holdOne(t, x, Peer{Id: 3, Until: 25})
		w.call(x, 25)
		holdOne(t, x, Peer{Id: 3})
	}
}

// P20.2: bans that end at several times, of tables of many peers: at each time, by one call,
// all those end whose time has come, and no others; Scores of others stay.
func TestSeveralBans(t *testing.T) {
	for _, many := range []int{1, 2, 6, 99, 100} {
		for now := uint64(0); now <= uint64(many)+45; now++ {
			x := joined(t, many, row(0, many)...)
			want := fresh(row(0, many)...)
			// From the latest one on, so that none of these calls ends a ban.
			for id := many - 1; id >= 0; id-- {
				begin := uint64(id / 2 * 2)
				if id%5 == 3 {
					want[id].Score = 1 + id%9
					holdBlame(t, x, id, want[id].Score, begin, false, api.OK)
					continue
				}
				ban(t, x, id, begin)
				if begin+20 > now {
					want[id].Until = begin + 20
				}
			}
			x.Join(-1, now)
			for _, p := range want {
				holdOne(t, x, p)
			}
			holdList(t, x, 0, want...)
		}
		if t.Failed() {
			t.Fatalf("%d peers", many)
		}
	}
}

// P20.2: a call that answers Join's ErrFull, and Leave's OK, has ended bans of others first.
func TestBansEndAheadOfAllElse(t *testing.T) {
	x := joined(t, 2, 1, 2)
	ban(t, x, 1, 0)
	holdJoin(t, x, 3, 20, api.ErrFull)
	holdOne(t, x, Peer{Id: 1})
	ban(t, x, 1, 20)
	holdLeave(t, x, 2, 40, api.OK)
	holdOne(t, x, Peer{Id: 1})
	ban(t, x, 1, 40)
	holdJoin(t, x, 2, 60, api.OK)
	holdOne(t, x, Peer{Id: 1})
	ban(t, x, 1, 60)
	holdBlame(t, x, 2, 10, 80, true, api.OK)
	holdOne(t, x, Peer{Id: 1})
	holdList(t, x, 80, Peer{Id: 1}, Peer{Id: 2, Until: 100})
}

// P20.2: times that don't rise: a ban that has ended stays ended at an earlier time, and one
// that began at a later time lasts.
func TestTimesThatDoNotRise(t *testing.T) {
	x := joined(t, 3, 1, 2, 3)
	ban(t, x, 1, 1000)
	holdMay(t, x, 1, 0, api.ErrBan)
	holdMay(t, x, 1, 1019, api.ErrBan)
	ban(t, x, 2, 5)
	holdList(t, x, 3, Peer{Id: 1, Until: 1020}, Peer{Id: 2, Until: 25}, Peer{Id: 3})
	holdMay(t, x, 3, 1020, api.OK)
	holdList(t, x, 0, fresh(1, 2, 3)...)
	ban(t, x, 1, 2)
	holdMay(t, x, 1, 0, api.ErrBan)
	holdList(t, x, 21, Peer{Id: 1, Until: 22}, Peer{Id: 2}, Peer{Id: 3})
	holdList(t, x, never, fresh(1, 2, 3)...)
	holdBlame(t, x, 3, 9, never, false, api.OK)
	holdBlame(t, x, 3, 1, 0, true, api.OK)
	holdLeave(t, x, 3, 0, api.ErrBan)
	holdList(t, x, 0, Peer{Id: 1}, Peer{Id: 2}, Peer{Id: 3, Until: 20})
	holdLeave(t, x, 1, 0, api.OK)
	holdJoin(t, x, 1, 0, api.OK)
	holdList(t, x, 20, fresh(1, 2, 3)...)
}

// P20.2, P20.4: who is banned can do nothing about it: neither leave nor join changes it.
func TestBannedDoNothing(t *testing.T) {
	x := joined(t, 6, 1, 2)
	holdBlame(t, x, 1, 50, 7, true, api.OK)
	for now := range uint64(27) {
		holdLeave(t, x, 1, now, api.ErrBan)
		holdJoin(t, x, 1, now, api.ErrBan)
		holdBlame(t, x, 1, 100, now, false, api.ErrBan)
		holdMay(t, x, 1, now, api.ErrBan)
		holdList(t, x, now, Peer{Id: 1, Until: 27}, Peer{Id: 2})
	}
	holdList(t, x, 27, fresh(1, 2)...)
}
