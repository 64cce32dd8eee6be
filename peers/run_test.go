package peers

import (
	"math"
	"math/rand"
	"slices"
	"testing"

	"almagest/api"
)

// heard is a peer by the chapter's words; whether it is banned is told beside till when.
type heard struct {
	id, score int
	banned    bool
	until     uint64
}

// plain is a table by the chapter's words: so many peers at most, in the order in which they
// joined.
type plain struct {
	room int
	all  []heard
}

func (p *plain) end(now uint64) {
	for i, h := range p.all {
		if h.banned && now >= h.until {
			p.all[i] = heard{id: h.id}
		}
	}
}

// at tells where a peer stands, or -1.
func (p *plain) at(id int) int {
	return slices.IndexFunc(p.all, func(h heard) bool { return h.id == id })
}

func (p *plain) join(id int, now uint64) api.Errno {
	p.end(now)
	at := p.at(id)
	if id < 0 {
		return api.ErrArg
	}
	if at >= 0 && p.all[at].banned {
		return api.ErrBan
	}
	if at >= 0 {
		return api.ErrTwice
	}
	if len(p.all) >= p.room {
		return api.ErrFull
	}
	p.all = append(p.all, heard{id: id})
	return api.OK
}

func (p *plain) may(id int, now uint64) api.Errno {
	p.end(now)
	at := p.at(id)
	if at < 0 {
		return api.ErrName
	}
	if p.all[at].banned {
		return api.ErrBan
	}
	return api.OK
}

func (p *plain) leave(id int, now uint64) api.Errno {
	if failed := p.may(id, now); failed != api.OK {
		return failed
	}
	var left []heard
	for _, h := range p.all {
		if h.id != id {
			left = append(left, h)
		}
	}
	p.all = left
	return api.OK
}

func (p *plain) blame(id, points int, now uint64) (bool, api.Errno) {
	p.end(now)
	if points < 0 || points > 100 {
		return false, api.ErrArg
	}
	if failed := p.may(id, now); failed != api.OK {
		return false, failed
	}
	h := &p.all[p.at(id)]
	for range points {
		h.score++
	}
	if h.score < 10 {
		return false, api.OK
	}
	until := now
	for range 20 {
		if until < never {
			until++
		}
	}
	*h = heard{id: id, banned: true, until: until}
	return true, api.OK
}

// list goes, for each place, by all that are there: the one ahead of which so many stand.
func (p *plain) list(now uint64) []Peer {
	p.end(now)
	all := make([]Peer, len(p.all))
	for _, h := range p.all {
		ahead := 0
		for _, other := range p.all {
			if other.id < h.id {
				ahead++
			}
		}
		all[ahead] = Peer{Id: h.id, Score: h.score, Until: h.until}
	}
	return all
}

// kind is a function that is told the time.
type kind int

const (
	joins kind = iota
	leaves
	mays
	blamed
	lists
	kinds int = iota
)

// call is a call of a table.
type call struct {
	kind       kind
	id, points int
	now        uint64
}

// answer is all that a call answers.
type answer struct {
	banned bool
	failed api.Errno
	all    []Peer
}

func (a answer) is(b answer) bool {
	return a.banned == b.banned && a.failed == b.failed && slices.Equal(a.all, b.all)
}

// of calls a table.
func (c call) of(x *Table) answer {
	var a answer
	switch c.kind {
	case joins:
		a.failed = x.Join(c.id, c.now)
	case leaves:
		a.failed = x.Leave(c.id, c.now)
	case mays:
		a.failed = x.May(c.id, c.now)
	case blamed:
		a.banned, a.failed = x.Blame(c.id, c.points, c.now)
	case lists:
		a.all = x.List(c.now)
	}
	return a
}

// plainly calls a table by the chapter's words.
func (c call) plainly(p *plain) answer {
	var a answer
	switch c.kind {
	case joins:
		a.failed = p.join(c.id, c.now)
	case leaves:
		a.failed = p.leave(c.id, c.now)
	case mays:
		a.failed = p.may(c.id, c.now)
	case blamed:
		a.banned, a.failed = p.blame(c.id, c.points, c.now)
	case lists:
		a.all = p.list(c.now)
	}
	return a
}

// both is a table, and one by the chapter's words beside it.
type both struct {
	x *Table
	p *plain
}

func bothOf(t *testing.T, room int) both {
	t.Helper()
	return both{table(t, room), &plain{room: room}}
}

// do calls both, holds the answers against each other, and answers them.
func (b both) do(t *testing.T, c call) answer {
	t.Helper()
	got, want := c.of(b.x), c.plainly(b.p)
	if !got.is(want) {
		t.Errorf("%+v: %+v; want %+v", c, got, want)
	}
	return want
}

// hold holds all that both have, without a call that is told a time at which a ban ends.
func (b both) hold(t *testing.T) {
	t.Helper()
	if len(b.x.peers) != len(b.p.all) {
		t.Errorf("%d peers; want %d", len(b.x.peers), len(b.p.all))
	}
	for _, h := range b.p.all {
		holdOne(t, b.x, Peer{Id: h.id, Score: h.score, Until: h.until})
	}
}

// shortCalls makes all calls of two peers and one below 0, at few times.
func shortCalls(times []uint64) []call {
	var all []call
	for _, now := range times {
		all = append(all, call{kind: lists, now: now}, call{kind: joins, id: -1, now: now})
		for id := range 2 {
			for _, k := range []kind{joins, leaves, mays} {
				all = append(all, call{kind: k, id: id, now: now})
			}
			for _, points := range []int{1, 9, 10, 101} {
				all = append(all, call{kind: blamed, id: id, points: points, now: now})
			}
		}
	}
	return all
}

// P20.1 to P20.3: all histories of three calls of two peers, at times about a ban's end, from
// an empty table on, and from one to which one or both have joined.
func TestAllShortHistories(t *testing.T) {
	for _, times := range [][]uint64{{0, 20, 19}, {7, 27, 40}, {never - 21, never - 1, never}} {
		calls := shortCalls(times)
		for room := 1; room <= 2; room++ {
			for begin := range 3 {
				for history := range len(calls) * len(calls) * len(calls) {
					b := bothOf(t, room)
					for id := range begin {
						b.do(t, call{kind: joins, id: id})
					}
					left := history
					for range 3 {
						b.do(t, calls[left%len(calls)])
						left /= len(calls)
					}
					b.hold(t)
					if t.Failed() {
						t.Fatalf("room %d, %d joined, history %d", room, begin, history)
					}
				}
			}
		}
	}
}

// clock tells times of chance, each by the one ahead.
type clock struct {
	name string
	next func(r *rand.Rand, now uint64) uint64
}

// clocks makes clocks whose times rise by little, by much, or up to the greatest time, stand
// still, or don't rise.
func clocks() []clock {
	return []clock{
		{"rise by 1", func(r *rand.Rand, now uint64) uint64 { return now + 1 }},
		{"rise by little", func(r *rand.Rand, now uint64) uint64 { return now + uint64(r.Intn(3)) }},
		{"rise by more", func(r *rand.Rand, now uint64) uint64 { return now + uint64(r.Intn(25)) }},
		{"stand still", func(r *rand.Rand, now uint64) uint64 { return now }},
		{"go to and fro", func(r *rand.Rand, now uint64) uint64 { return uint64(r.Intn(60)) }},
		{"of all kinds", func(r *rand.Rand, now uint64) uint64 { return r.Uint64() >> r.Intn(64) }},
		{"near the end", func(r *rand.Rand, now uint64) uint64 { return never - uint64(r.Intn(50)) }},
		{"at both ends", func(r *rand.Rand, now uint64) uint64 { return []uint64{0, 19, 20, never - 1, never}[r.Intn(5)] }},
		{"rise to the end", func(r *rand.Rand, now uint64) uint64 {
			now = max(now, never-1500)
			return now + min(never-now, uint64(r.Intn(3)))
		}},
	}
}

// rooms has some rooms, from the least to the greatest.
var rooms = []int{1, 2, 3, 5, 6, 16, 99, 100}

// chanceCall makes a call of chance about one of some peers, Join more often than others; few
// are about one below 0.
func chanceCall(r *rand.Rand, ids []int, now uint64) call {
	c := call{kind: kind(max(0, r.Intn(kinds+2)-2)), id: ids[r.Intn(len(ids))], now: now}
	switch r.Intn(20) {
	case 0:
		c.id = -1 - r.Intn(3)
	case 1:
		c.points = wrongPoints[r.Intn(len(wrongPoints))]
	case 2:
		c.points = r.Intn(101)
	default:
		c.points = r.Intn(7)
	}
	return c
}

// someIds makes so many Ids of chance, 0 and the greatest number among them.
func someIds(r *rand.Rand, many int) []int {
	ids := []int{0, math.MaxInt}[:min(many, 2)]
	for len(ids) < many {
		if id := r.Int() >> r.Intn(60); !slices.Contains(ids, id) {
			ids = append(ids, id)
		}
	}
	return ids
}

// told is what a call answers but a list.
type told struct {
	banned bool
	failed api.Errno
}

// chance does so many calls of chance of both, and counts what these answer.
func (b both) chance(t *testing.T, r *rand.Rand, clock clock, ids []int, steps int) map[told]int {
	t.Helper()
	now, met := uint64(0), map[told]int{}
	for range steps {
		now = clock.next(r, now)
		a := b.do(t, chanceCall(r, ids, now))
		met[told{a.banned, a.failed}]++
		b.hold(t)
	}
	return met
}

// P20.1 to P20.3: long runs of chance of all calls, in many rooms, at times that rise and that
// don't, held call by call against the chapter's words.
func TestRuns(t *testing.T) {
	r := rand.New(rand.NewSource(202))
	for _, clock := range clocks() {
		all := map[told]int{}
		for _, room := range rooms {
			for _, many := range []int{1, room, room + 1, 2*room + 1} {
				met := bothOf(t, room).chance(t, r, clock, someIds(r, many), 1000+10*room)
				if many == 2*room+1 && met[told{false, api.ErrFull}] == 0 {
					t.Errorf("never full: %v", met)
				}
				for a, often := range met {
					all[a] += often
				}
				if t.Failed() {
					t.Fatalf("times %s, room %d, %d peers", clock.name, room, many)
				}
			}
		}
		for _, must := range []told{{true, api.OK}, {false, api.OK}, {false, api.ErrArg}, {false, api.ErrName}, {false, api.ErrTwice}, {false, api.ErrBan}} {
			if all[must] < 100 {
				t.Errorf("times %s: %+v is met %d times", clock.name, must, all[must])
			}
		}
	}
}

// holdBounds holds that there are no more peers than there is room for, each once, of Ids that
// rise from 0 on, and that each Score is one that doesn't ban, and 0 while banned.
func holdBounds(t *testing.T, x *Table, room int, now uint64) {
	t.Helper()
	all := x.List(now)
	if len(all) > room || len(x.peers) != len(all) {
		t.Errorf("room %d: %d peers, %d kept", room, len(all), len(x.peers))
	}
	ahead := -1
	for _, p := range all {
		if p.Id <= ahead || p.Score < 0 || p.Score > 9 || p.Until != 0 && (p.Score != 0 || p.Until <= now) {
			t.Errorf("room %d at %d: %v behind %d", room, now, p, ahead)
		}
		ahead = p.Id
	}
}

// P20.4: never more than there is room for, each once, for all that is done: runs of chance, of
// which nothing is known but what the table itself tells.
func TestBounds(t *testing.T) {
	r := rand.New(rand.NewSource(203))
	for _, clock := range clocks() {
		for _, room := range rooms {
			x := table(t, room)
			ids := someIds(r, 2*room+1)
			now, most := uint64(0), 0
			for range 600 {
				now = clock.next(r, now)
				chanceCall(r, ids, now).of(x)
				holdBounds(t, x, room, now)
				most = max(most, len(x.List(now)))
			}
			if room < 20 && most != room {
				t.Errorf("room %d: there were but %d", room, most)
			}
		}
	}
}

// P20.4: neither leave nor join, nor anything else that is done till then, changes one that is
// banned, and each ban ends: runs of chance at times that rise to a ban's end.
func TestBansLast(t *testing.T) {
	r := rand.New(rand.NewSource(204))
	for run := range 300 {
		room := rooms[run%len(rooms)]
		ids := someIds(r, room+2)
		x := table(t, room)
		id := ids[r.Intn(len(ids))]
		begin := begins[r.Intn(len(begins))]
		holdJoin(t, x, id, begin, api.OK)
		holdBlame(t, x, id, 10, begin, true, api.OK)
		for now := begin; now < begin+20; now++ {
			for range 1 + r.Intn(5) {
				chanceCall(r, ids, now).of(x)
				holdOne(t, x, Peer{Id: id, Until: begin + 20})
			}
			holdLeave(t, x, id, now, api.ErrBan)
			holdJoin(t, x, id, now, api.ErrBan)
			holdOne(t, x, Peer{Id: id, Until: begin + 20})
		}
		holdMay(t, x, id, begin+20, api.OK)
		holdOne(t, x, Peer{Id: id})
	}
}

// P20.4: each ban ends: at the greatest time none is left, whenever they began.
func TestEachBanEnds(t *testing.T) {
	r := rand.New(rand.NewSource(205))
	for _, clock := range clocks() {
		for _, room := range rooms {
			x := joined(t, room, row(0, room)...)
			now, bans := uint64(0), 0
			for range 500 {
				now = clock.next(r, now)
				if banned, _ := x.Blame(r.Intn(room), 10, now); banned {
					bans++
				}
			}
			holdList(t, x, never, fresh(row(0, room)...)...)
			if bans == 0 {
				t.Errorf("room %d: no bans", room)
			}
		}
	}
}

// R4: the same calls, in the same order, answer the same, in as many tables as there are.
func TestSameAgain(t *testing.T) {
	run := func() []answer {
		r := rand.New(rand.NewSource(206))
		x := table(t, 12)
		ids := someIds(r, 20)
		var answers []answer
		for n := range uint64(3000) {
			answers = append(answers, chanceCall(r, ids, n).of(x), call{kind: lists, now: n}.of(x))
		}
		return answers
	}
	first := run()
	for range 5 {
		if !slices.EqualFunc(run(), first, answer.is) {
			t.Fatal("the same calls answer another thing")
		}
	}
}

// R5: no more is kept than those that are there, however many came and left.
func TestKeepsNoMore(t *testing.T) {
	for _, room := range []int{1, 6, 100} {
		x := table(t, room)
		for n := range 20000 {
			holdJoin(t, x, n, uint64(n), api.OK)
			if n >= room-1 {
				holdLeave(t, x, n-room+1, uint64(n), api.OK)
			}
		}
		if len(x.peers) != room-1 {
			t.Errorf("room %d: %d are kept", room, len(x.peers))
		}
	}
}
