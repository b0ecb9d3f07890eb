package plan

import (
	"cmp"
	"math/rand/v2"
	"slices"
	"testing"

	"haywain/api"
)

const (
	greatest = 1<<63 - 1
	lowest   = -1 << 63
)

// set is what loads are reckoned of.
type set struct {
	owners, members, cost, slow []int
}

func ids(l ...int) []int {
	return l
}

func checkRight(t *testing.T, owners []int, want bool) {
	t.Helper()
	if Right(owners) != want {
		t.Errorf("Right(%v): %v; want %v", owners, !want, want)
	}
}

func checkMoves(t *testing.T, old, fresh []int, want []Move, err api.Errno) {
	t.Helper()
	if got, e := Moves(old, fresh); !slices.Equal(got, want) || e != err {
		t.Errorf("Moves(%v, %v): %v, %d; want %v, %d", old, fresh, got, e, want, err)
	}
}

func checkApply(t *testing.T, owners []int, l []Move, want []int, err api.Errno) {
	t.Helper()
	if got, e := Apply(owners, l); !slices.Equal(got, want) || e != err {
		t.Errorf("Apply(%v, %v): %v, %d; want %v, %d", owners, l, got, e, want, err)
	}
}

func checkLoads(t *testing.T, s set, want []int, err api.Errno) {
	t.Helper()
	if got, e := Loads(s.owners, s.members, s.cost, s.slow); !slices.Equal(got, want) || e != err {
		t.Errorf("Loads of %v: %v, %d; want %v, %d", s, got, e, want, err)
	}
}

func checkEven(t *testing.T, s set, want []int, err api.Errno) {
	t.Helper()
	if got, e := Even(s.owners, s.members, s.cost, s.slow); !slices.Equal(got, want) || e != err {
		t.Errorf("Even of %v: %v, %d; want %v, %d", s, got, e, want, err)
	}
}

// checkWrong: neither Loads nor Even takes a set.
func checkWrong(t *testing.T, s set, err api.Errno) {
	t.Helper()
	checkLoads(t, s, nil, err)
	checkEven(t, s, nil, err)
}

// loadsOf is what the document says of loads, member by member.
func loadsOf(s set) []int {
	var l []int
	for i, w := range s.members {
		n := 0
		for range s.slow[i] {
			for p, c := range s.cost {
				if s.owners[p] == w {
					n += c
				}
			}
		}
		l = append(l, n)
	}
	return l
}

// evened is what the document says of making even, by other means: members and partitions stand in rows that are sorted, and each partition is tried in a set of its own, of which all loads are reckoned anew. It answers how many moves it was done with, too.
func evened(s set) ([]int, int) {
	type row struct{ at, n int }
	byNumber := func(a, b row) int { return cmp.Or(cmp.Compare(a.n, b.n), cmp.Compare(a.at, b.at)) }
	now := slices.Clone(s.owners)
	for moves := range len(now) {
		var falling, rising, tries []row
		for i, n := range loadsOf(set{now, s.members, s.cost, s.slow}) {
			falling, rising = append(falling, row{i, -n}), append(rising, row{i, n})
		}
		heavy, light := slices.MinFunc(falling, byNumber), slices.MinFunc(rising, byNumber)
		for p, w := range now {
			if w == s.members[heavy.at] {
				try := slices.Clone(now)
				try[p] = s.members[light.at]
				l := loadsOf(set{try, s.members, s.cost, s.slow})
				tries = append(tries, row{p, max(l[heavy.at], l[light.at])})
			}
		}
		slices.SortFunc(tries, byNumber)
		if len(tries) == 0 || tries[0].n >= -heavy.n {
			return now, moves
		}
		now[tries[0].at] = s.members[light.at]
	}
	return now, len(now)
}

// applied is what the document says of moves, by other means: the worker of each partition is kept in a map.
func applied(owners []int, l []Move) ([]int, api.Errno) {
	now := map[int]int{}
	for p, w := range owners {
		now[p] = w
	}
	for _, m := range l {
		w, ok := now[m.P]
		if !ok {
			return nil, api.ErrNone
		}
		if w != m.From {
			return nil, api.ErrState
		}
		if m.To <= 0 || m.To > api.MaxId {
			return nil, api.ErrArg
		}
		now[m.P] = m.To
	}
	behind := make([]int, len(owners))
	for p, w := range now {
		behind[p] = w
	}
	return behind, api.OK
}

// each calls a function with every list of n numbers that are of l.
func each(l []int, n int, f func([]int)) {
	if n == 0 {
		f(nil)
		return
	}
	each(l, n-1, func(rest []int) {
		for _, one := range l {
			f(append(slices.Clone(rest), one))
		}
	})
}

func anyOf(r *rand.Rand, l []int) int {
	return l[r.IntN(len(l))]
}

// anyMembers answers members that are right, as many as told.
func anyMembers(r *rand.Rand, n int) []int {
	l := r.Perm(api.MaxId)[:n]
	for i := range l {
		l[i]++
	}
	slices.Sort(l)
	return l
}

// anyOwners answers owners that are right, as many as told.
func anyOwners(r *rand.Rand, n int) []int {
	l := make([]int, n)
	for p := range l {
		l[p] = 1 + r.IntN(api.MaxId)
	}
	return l
}

// anySet answers a set that is right: often with few different numbers, so that loads are alike, and often with all partitions with one member.
func anySet(r *rand.Rand) set {
	s := set{members: anyMembers(r, 1+r.IntN(api.MaxWorkers))}
	most, mostSlow := anyOf(r, ids(0, 1, 3, 12, 1000, 1000)), anyOf(r, ids(1, 2, 10, 10))
	all, one := r.IntN(3) == 0, anyOf(r, s.members)
	for range 1 + r.IntN(api.MaxParts) {
		w := one
		if !all {
			w = anyOf(r, s.members)
		}
		s.owners = append(s.owners, w)
		s.cost = append(s.cost, r.IntN(most+1))
	}
	for range s.members {
		s.slow = append(s.slow, 1+r.IntN(mostSlow))
	}
	return s
}

// wrongOwners answers lists that aren't right, each in another way.
func wrongOwners() [][]int {
	return [][]int{
		nil, {}, {0}, {-1}, {lowest}, {greatest}, {api.MaxId + 1}, {1 << 32}, {1<<32 + 1},
		{0, 1}, {1, 0}, {1, -1}, {1, lowest}, {api.MaxId, api.MaxId + 1}, {api.MaxId + 1, 1}, {1, greatest}, {0, 0}, {1, 0, 1},
		{0, 1, 1, 1, 1, 1}, {1, 1, 1, 1, 1, 0}, {1, 1, 1, 1, 1, api.MaxId + 1}, {1, 1, 1, 0, 1, 1},
		{1, 1, 1, 1, 1, 1, 1}, {1, 2, 3, 4, 5, 6, 7}, {1, 1, 1, 1, 1, 1, 0}, make([]int, 1000), slices.Repeat(ids(1), 1000),
	}
}

// rightOwners answers lists that are right, at the edges.
func rightOwners() [][]int {
	return [][]int{
		{1}, {2}, {50}, {api.MaxId - 1}, {api.MaxId}, {1, 1}, {2, 1}, {1, api.MaxId}, {api.MaxId, 1}, {1, 1, 2}, {3, 1, 3},
		{1, 2, 3, 4, 5}, {1, 1, 1, 1, 1, 1}, {1, 2, 3, 4, 5, 6}, {api.MaxId, api.MaxId, api.MaxId, api.MaxId, api.MaxId, api.MaxId}, {99, 1, 98, 2, 97, 3},
	}
}

// The chapter's examples.
func TestExamples(t *testing.T) {
	checkMoves(t, ids(1, 1, 2), ids(1, 3, 2), []Move{{1, 1, 3}}, api.OK)
	checkApply(t, ids(1, 1, 2), []Move{{P: 1, From: 1, To: 3}}, ids(1, 3, 2), api.OK)
	s := set{ids(1, 1, 2), ids(1, 2), ids(5, 4, 1), ids(1, 2)}
	checkLoads(t, s, ids(9, 2), api.OK)
	checkEven(t, s, ids(1, 1, 2), api.OK)
	checkEven(t, set{ids(1, 1, 1), ids(1, 2), ids(5, 4, 1), ids(1, 1)}, ids(2, 1, 1), api.OK)
}

// P10.1: owners at the edges: how many, which numbers; neither rising nor each once.
func TestRight(t *testing.T) {
	for _, l := range wrongOwners() {
		checkRight(t, l, false)
	}
	for _, l := range rightOwners() {
		checkRight(t, l, true)
	}
	for n := range 12 {
		checkRight(t, slices.Repeat(ids(1), n), n >= 1 && n <= api.MaxParts)
		checkRight(t, slices.Repeat(ids(api.MaxId), n), n >= 1 && n <= api.MaxParts)
	}
	for n := 1; n <= api.MaxParts; n++ {
		for p := range n {
			for w := -3; w <= api.MaxId+3; w++ {
				l := slices.Repeat(ids(7), n)
				l[p] = w
				checkRight(t, l, w >= 1 && w <= api.MaxId)
			}
		}
	}
}

// P10.1: owners that are alike, that differ in each partition, and in some.
func TestMoves(t *testing.T) {
	for _, l := range rightOwners() {
		checkMoves(t, l, l, nil, api.OK)
		checkMoves(t, l, slices.Clone(l), nil, api.OK)
	}
	checkMoves(t, ids(1), ids(api.MaxId), []Move{{0, 1, api.MaxId}}, api.OK)
	checkMoves(t, ids(api.MaxId), ids(1), []Move{{0, api.MaxId, 1}}, api.OK)
	checkMoves(t, ids(1, 2), ids(2, 1), []Move{{0, 1, 2}, {1, 2, 1}}, api.OK)
	checkMoves(t, ids(1, 2, 3, 4, 5, 6), ids(2, 3, 4, 5, 6, 1), []Move{{0, 1, 2}, {1, 2, 3}, {2, 3, 4}, {3, 4, 5}, {4, 5, 6}, {5, 6, 1}}, api.OK)
	checkMoves(t, ids(9, 9, 9, 9, 9, 9), ids(9, 1, 9, 9, 2, 9), []Move{{1, 9, 1}, {4, 9, 2}}, api.OK)
	checkMoves(t, ids(9, 9, 9, 9, 9, 9), ids(8, 9, 9, 9, 9, 7), []Move{{0, 9, 8}, {5, 9, 7}}, api.OK)
	checkMoves(t, ids(1, 2, 3), ids(4, 4, 4), []Move{{0, 1, 4}, {1, 2, 4}, {2, 3, 4}}, api.OK)
}

// P10.1: lists of which one is wrong, or both, or one is longer.
func TestMovesWrong(t *testing.T) {
	for _, l := range wrongOwners() {
		for _, other := range rightOwners() {
			checkMoves(t, l, other, nil, api.ErrArg)
			checkMoves(t, other, l, nil, api.ErrArg)
		}
		for _, other := range wrongOwners() {
			checkMoves(t, l, other, nil, api.ErrArg)
		}
		checkMoves(t, l, slices.Repeat(ids(1), len(l)), nil, api.ErrArg)
		checkMoves(t, slices.Repeat(ids(1), len(l)), l, nil, api.ErrArg)
	}
	for n := 1; n <= api.MaxParts; n++ {
		for m := 1; m <= api.MaxParts; m++ {
			want := api.ErrArg
			if n == m {
				want = api.OK
			}
			checkMoves(t, slices.Repeat(ids(3), n), slices.Repeat(ids(3), m), nil, want)
		}
	}
	checkMoves(t, ids(1, 2), ids(1, 2, 3), nil, api.ErrArg)
	checkMoves(t, ids(1, 2, 3), ids(2, 1), nil, api.ErrArg)
}

// P10.2: moves that may be: none, several, one behind the other, from a worker to itself.
func TestApply(t *testing.T) {
	for _, l := range rightOwners() {
		checkApply(t, l, nil, l, api.OK)
		checkApply(t, l, []Move{}, l, api.OK)
		for p, w := range l {
			checkApply(t, l, []Move{{p, w, w}}, l, api.OK)
			for _, to := range ids(1, 2, api.MaxId-1, api.MaxId) {
				want := slices.Clone(l)
				want[p] = to
				checkApply(t, l, []Move{{p, w, to}}, want, api.OK)
				checkApply(t, l, []Move{{p, w, 40}, {p, 40, 41}, {p, 41, to}}, want, api.OK)
				checkApply(t, l, []Move{{p, w, to}, {p, to, w}}, l, api.OK)
			}
		}
	}
	checkApply(t, ids(1, 2, 3), []Move{{0, 1, 2}, {1, 2, 3}, {2, 3, 1}}, ids(2, 3, 1), api.OK)
	checkApply(t, ids(1, 2, 3), []Move{{2, 3, 9}, {0, 1, 9}, {2, 9, 8}}, ids(9, 2, 8), api.OK)
	checkApply(t, ids(1, 1, 1, 1, 1, 1), []Move{{5, 1, 99}, {0, 1, 98}}, ids(98, 1, 1, 1, 1, 99), api.OK)
}

// P10.2: a great many moves of one partition, one behind the other.
func TestApplyMany(t *testing.T) {
	var l []Move
	for i := range 100000 {
		l = append(l, Move{1, i%api.MaxId + 1, (i+1)%api.MaxId + 1})
	}
	checkApply(t, ids(7, 1), l, ids(7, 100000%api.MaxId+1), api.OK)
	if _, err := Apply(ids(7, 1), append(l, Move{1, 1, 2})); err != api.ErrState {
		t.Errorf("the last move is of another worker's partition: %d", err)
	}
}

// P10.2: owners that aren't right come first, whatever the moves.
func TestApplyWrongOwners(t *testing.T) {
	for _, owners := range wrongOwners() {
		for _, l := range [][]Move{nil, {}, {{0, 1, 2}}, {{0, 0, 2}}, {{-1, 1, 2}}, {{0, 1, 0}}, {{0, 5, 1}}, {{99, 99, 999}}} {
			checkApply(t, owners, l, nil, api.ErrArg)
		}
	}
}

// P10.2: one move that is wrong: no such partition, another worker's, to no worker; of several faults the first that the document names.
func TestApplyWrongMove(t *testing.T) {
	numbers := ids(lowest, -1<<32, -1, 0, 1, 2, 3, api.MaxParts, api.MaxParts+1, api.MaxId-1, api.MaxId, api.MaxId+1, 1<<32, 1<<32+1, greatest)
	for _, owners := range [][]int{{1}, {api.MaxId}, {1, 2}, {2, 1, 3}, {1, 2, 3, 1, 2, 3}} {
		for _, p := range numbers {
			for _, from := range numbers {
				for _, to := range numbers {
					want, err := slices.Clone(owners), api.OK
					switch {
					case p < 0 || p >= len(owners):
						want, err = nil, api.ErrNone
					case owners[p] != from:
						want, err = nil, api.ErrState
					case to < 1 || to > api.MaxId:
						want, err = nil, api.ErrArg
					default:
						want[p] = to
					}
					checkApply(t, owners, []Move{{p, from, to}}, want, err)
				}
			}
		}
	}
	owners := ids(5, 6, 7)
	for _, p := range ids(-1, 3, 4, api.MaxParts, greatest, lowest) {
		checkApply(t, owners, []Move{{p, 5, 6}}, nil, api.ErrNone)
		checkApply(t, owners, []Move{{p, 0, 0}}, nil, api.ErrNone)
	}
	checkApply(t, owners, []Move{{0, 6, 5}}, nil, api.ErrState)
	checkApply(t, owners, []Move{{0, 6, 6}}, nil, api.ErrState)
	checkApply(t, owners, []Move{{0, 0, 0}}, nil, api.ErrState)
	checkApply(t, owners, []Move{{0, 5, 0}}, nil, api.ErrArg)
	checkApply(t, owners, []Move{{0, 5, api.MaxId + 1}}, nil, api.ErrArg)
	checkApply(t, owners, []Move{{0, 5, 1}}, ids(1, 6, 7), api.OK)
	checkApply(t, owners, []Move{{0, 5, api.MaxId}}, ids(api.MaxId, 6, 7), api.OK)
}

// P10.2: the first move that is wrong is told, however wrong a later one is, and whatever went well ahead of it.
func TestApplyFirstWrong(t *testing.T) {
	owners := ids(5, 6, 7)
	wrong := []struct {
		m   Move
		err api.Errno
	}{
		{Move{-1, 5, 6}, api.ErrNone}, {Move{3, 5, 0}, api.ErrNone}, {Move{1, 5, 6}, api.ErrState}, {Move{1, 5, 0}, api.ErrState},
		{Move{2, 7, 0}, api.ErrArg}, {Move{2, 7, api.MaxId + 1}, api.ErrArg},
	}
	for _, a := range wrong {
		for _, b := range wrong {
			checkApply(t, owners, []Move{a.m, b.m}, nil, a.err)
			checkApply(t, owners, []Move{{0, 5, 1}, a.m, {0, 1, 5}, b.m}, nil, a.err)
		}
		checkApply(t, owners, []Move{a.m, {0, 5, 1}}, nil, a.err)
		checkApply(t, owners, []Move{{0, 5, 1}, a.m}, nil, a.err)
	}
	checkApply(t, owners, []Move{{0, 5, 6}, {0, 5, 6}}, nil, api.ErrState)
	checkApply(t, owners, []Move{{0, 6, 5}, {0, 5, 6}}, nil, api.ErrState)
	checkApply(t, owners, []Move{{0, 5, 0}, {0, 0, 6}}, nil, api.ErrArg)
}

// P10.2: moves that are drawn, many of them right.
func TestApplyDrawn(t *testing.T) {
	r := rand.New(rand.NewPCG(10, 1))
	count := map[api.Errno]int{}
	for range 30000 {
		owners := anyOwners(r, 1+r.IntN(api.MaxParts))
		now := slices.Clone(owners)
		var l []Move
		for range r.IntN(12) {
			p := r.IntN(len(now))
			m := Move{p, now[p], 1 + r.IntN(api.MaxId)}
			now[p] = m.To
			switch r.IntN(40) {
			case 0:
				m.P = anyOf(r, ids(-1, len(now), greatest, lowest))
			case 1:
				m.From = anyOf(r, ids(-1, 0, 1, m.From+1, api.MaxId+1, greatest))
			case 2:
				m.To = anyOf(r, ids(-1, 0, api.MaxId+1, greatest, lowest))
			}
			l = append(l, m)
		}
		want, err := applied(owners, l)
		checkApply(t, owners, l, want, err)
		count[err]++
	}
	for _, err := range []api.Errno{api.OK, api.ErrNone, api.ErrState, api.ErrArg} {
		if count[err] < 1000 {
			t.Errorf("%d are told %d times", err, count[err])
		}
	}
}

// P10.3: loads at the edges: members without a partition, costs of 0, the greatest load, slow members.
func TestLoads(t *testing.T) {
	for _, c := range []struct {
		s    set
		want []int
	}{
		{set{ids(1), ids(1), ids(0), ids(1)}, ids(0)},
		{set{ids(1), ids(1), ids(1), ids(1)}, ids(1)},
		{set{ids(1), ids(1), ids(1000), ids(10)}, ids(10000)},
		{set{ids(99, 99, 99, 99, 99, 99), ids(99), ids(1000, 1000, 1000, 1000, 1000, 1000), ids(10)}, ids(60000)},
		{set{ids(3, 3), ids(1, 2, 3, 4, 5), ids(4, 3), ids(10, 10, 10, 10, 10)}, ids(0, 0, 70, 0, 0)},
		{set{ids(5, 4, 3, 2, 1, 5), ids(1, 2, 3, 4, 5), ids(1, 2, 3, 4, 5, 6), ids(1, 2, 3, 4, 5)}, ids(5, 8, 9, 8, 35)},
		{set{ids(20, 10, 20), ids(10, 20), ids(7, 1, 0), ids(3, 2)}, ids(3, 14)},
		{set{ids(1, 99, 1), ids(1, 50, 99), ids(0, 0, 0), ids(10, 10, 10)}, ids(0, 0, 0)},
	} {
		checkLoads(t, c.s, c.want, api.OK)
	}
}

// checkBoth: P10.3 of a set of which one number is put to be another one: what Loads and Even say of it.
func checkBoth(t *testing.T, s set, fine bool) {
	t.Helper()
	if !fine {
		checkWrong(t, s, api.ErrArg)
		return
	}
	checkLoads(t, s, loadsOf(s), api.OK)
	want, _ := evened(s)
	checkEven(t, s, want, api.OK)
}

// P10.3: costs and slow at their edges, at each place of their lists.
func TestCostAndSlow(t *testing.T) {
	for _, n := range ids(lowest, -1<<32, -1000, -10, -1, 0, 1, 2, 9, 10, 11, 12, 999, 1000, 1001, 1002, 1<<32, 1<<32+1, greatest) {
		for p := range api.MaxParts {
			s := set{ids(1, 2, 3, 4, 5, 1), ids(1, 2, 3, 4, 5), ids(9, 8, 7, 6, 5, 4), ids(1, 2, 3, 2, 1)}
			s.cost[p] = n
			checkBoth(t, s, n >= 0 && n <= 1000)
		}
		for i := range api.MaxWorkers {
			s := set{ids(1, 2, 3, 4, 5, 1), ids(1, 2, 3, 4, 5), ids(9, 8, 7, 6, 5, 4), ids(1, 2, 3, 2, 1)}
			s.slow[i] = n
			checkBoth(t, s, n >= 1 && n <= 10)
		}
		checkBoth(t, set{ids(1), ids(1), ids(n), ids(1)}, n >= 0 && n <= 1000)
		checkBoth(t, set{ids(1), ids(1), ids(1), ids(n)}, n >= 1 && n <= 10)
	}
}

// P10.3: lists of cost and slow that are too short or too long.
func TestLengths(t *testing.T) {
	for parts := 1; parts <= api.MaxParts; parts++ {
		for workers := 1; workers <= api.MaxWorkers; workers++ {
			for n := range 9 {
				members := ids(1, 2, 3, 4, 5)[:workers]
				owners := slices.Repeat(ids(1), parts)
				costs, slows := slices.Repeat(ids(1), parts), slices.Repeat(ids(1), workers)
				checkBoth(t, set{owners, members, slices.Repeat(ids(1), n), slows}, n == parts)
				checkBoth(t, set{owners, members, costs, slices.Repeat(ids(1), n)}, n == workers)
				checkBoth(t, set{owners, members, slices.Repeat(ids(1), n), slices.Repeat(ids(1), n)}, n == parts && n == workers)
			}
		}
	}
	checkWrong(t, set{ids(1, 2), ids(1, 2), nil, ids(1, 1)}, api.ErrArg)
	checkWrong(t, set{ids(1, 2), ids(1, 2), ids(1, 1), nil}, api.ErrArg)
	checkWrong(t, set{}, api.ErrArg)
}

// P10.3: owners and members that aren't right, though all else would fit.
func TestWrongSets(t *testing.T) {
	for _, owners := range wrongOwners() {
		for _, members := range [][]int{{1}, {1, 2, 3, 4, 5}, nil, {0}, {2, 1}} {
			checkWrong(t, set{owners, members, slices.Repeat(ids(1), len(owners)), slices.Repeat(ids(1), len(members))}, api.ErrArg)
		}
	}
	for _, members := range [][]int{nil, {}, {0}, {0, 1}, {1, 1}, {2, 1}, {1, 2, 2}, {1, api.MaxId + 1}, {-1, 1}, {1, 2, 3, 4, 5, 6}, {1, greatest}} {
		for _, owners := range [][]int{{1}, {1, 1}, {1, 1, 1, 1, 1, 1}, {9}} {
			checkWrong(t, set{owners, members, slices.Repeat(ids(1), len(owners)), slices.Repeat(ids(1), len(members))}, api.ErrArg)
		}
	}
}

// P10.3: an owner that is no member, at each place; and ErrArg ahead of ErrNone.
func TestNoMember(t *testing.T) {
	for p := range api.MaxParts {
		for w := 1; w <= api.MaxId; w++ {
			s := set{ids(10, 20, 30, 40, 50, 10), ids(10, 20, 30, 40, 50), ids(1, 2, 3, 4, 5, 6), ids(1, 1, 1, 1, 1)}
			s.owners[p] = w
			if slices.Contains(s.members, w) {
				checkBoth(t, s, true)
			} else {
				checkWrong(t, s, api.ErrNone)
			}
		}
	}
	fit := set{ids(3, 1), ids(1, 2), ids(0, 0), ids(1, 1)}
	checkWrong(t, fit, api.ErrNone)
	checkWrong(t, set{ids(1, 3), ids(1, 2), ids(0, 0), ids(1, 1)}, api.ErrNone)
	checkWrong(t, set{ids(3), ids(1), ids(5), ids(10)}, api.ErrNone)
	for _, s := range []set{
		{ids(3, 0), fit.members, fit.cost, fit.slow},
		{ids(3, api.MaxId+1), fit.members, fit.cost, fit.slow},
		{ids(3, 3, 3, 3, 3, 3, 3), fit.members, make([]int, 7), fit.slow},
		{fit.owners, ids(2, 1), fit.cost, fit.slow},
		{fit.owners, nil, fit.cost, nil},
		{fit.owners, fit.members, ids(0), fit.slow},
		{fit.owners, fit.members, ids(0, 0, 0), fit.slow},
		{fit.owners, fit.members, ids(0, -1), fit.slow},
		{fit.owners, fit.members, ids(0, 1001), fit.slow},
		{fit.owners, fit.members, fit.cost, ids(1)},
		{fit.owners, fit.members, fit.cost, ids(1, 1, 1)},
		{fit.owners, fit.members, fit.cost, ids(1, 0)},
		{fit.owners, fit.members, fit.cost, ids(1, 11)},
	} {
		checkWrong(t, s, api.ErrArg)
	}
}

// P10.3: who is the heaviest, who the lightest, and which partition goes, of several that would do.
func TestEven(t *testing.T) {
	for _, c := range []struct {
		what string
		s    set
		want []int
	}{
		{"one member alone", set{ids(9, 9, 9), ids(9), ids(5, 0, 1000), ids(10)}, ids(9, 9, 9)},
		{"all costs 0", set{ids(1, 1, 1), ids(1, 2, 3), ids(0, 0, 0), ids(10, 1, 1)}, ids(1, 1, 1)},
		{"all loads alike", set{ids(1, 2, 3), ids(1, 2, 3), ids(4, 4, 4), ids(1, 1, 1)}, ids(1, 2, 3)},
		{"two are the heaviest", set{ids(1, 1, 2, 2), ids(1, 2, 3), ids(1, 1, 1, 1), ids(1, 1, 1)}, ids(3, 1, 2, 2)},
		{"two are the heaviest, the second one's partitions come first", set{ids(2, 2, 1, 1), ids(1, 2, 3), ids(1, 1, 1, 1), ids(1, 1, 1)}, ids(2, 2, 3, 1)},
		{"two are the lightest", set{ids(1, 1), ids(1, 2, 3), ids(1, 1), ids(1, 1, 1)}, ids(2, 1)},
		{"two are the lightest, behind all others", set{ids(1, 1), ids(1, 8, 9), ids(2, 2), ids(1, 5, 1)}, ids(1, 1)},
		{"two would do equally well", set{ids(1, 1), ids(1, 2), ids(1, 3), ids(1, 1)}, ids(2, 1)},
		{"two would do equally well, the greater one first", set{ids(1, 1), ids(1, 2), ids(3, 1), ids(1, 1)}, ids(2, 1)},
		{"the second one would do better", set{ids(1, 1, 1), ids(1, 2), ids(1, 5, 3), ids(1, 1)}, ids(1, 2, 1)},
		{"the last one would do better", set{ids(1, 1, 1), ids(1, 2), ids(1, 4, 5), ids(1, 1)}, ids(1, 1, 2)},
		{"what costs nothing stays", set{ids(1, 1, 1), ids(1, 2), ids(0, 3, 3), ids(1, 1)}, ids(1, 2, 1)},
		{"as great as it was isn't below", set{ids(1), ids(1, 2), ids(5), ids(1, 1)}, ids(1)},
		{"below by one is below", set{ids(1), ids(1, 2), ids(1), ids(2, 1)}, ids(2)},
		{"the heaviest is slow", set{ids(1, 2, 2), ids(1, 2), ids(2, 2, 2), ids(10, 1)}, ids(2, 2, 2)},
		{"the lightest is slow", set{ids(1, 1), ids(1, 2), ids(6, 3), ids(1, 3)}, ids(1, 1)},
		{"none but the lightest is tried", set{ids(1, 3), ids(1, 2, 3), ids(10, 5), ids(2, 10, 1)}, ids(1, 3)},
		{"none but the heaviest gives away", set{ids(1, 2, 2), ids(1, 2, 3), ids(10, 2, 2), ids(1, 1, 1)}, ids(1, 2, 2)},
		{"one goes twice", set{ids(3, 3, 3), ids(1, 2, 3), ids(1, 0, 0), ids(5, 2, 9)}, ids(2, 3, 3)},
	} {
		checkEven(t, c.s, c.want, api.OK)
		if t.Failed() {
			t.Fatal(c.what)
		}
	}
}

// P10.3, P10.6: of these loads each needs as many moves as there are partitions, and some would take more: so the second time more of them go.
func TestEvenAllMoves(t *testing.T) {
	for _, c := range []struct {
		s            set
		want, second []int
	}{
		{set{ids(1), ids(1, 2), ids(1), ids(2, 1)}, ids(2), ids(2)},
		{set{ids(4, 5), ids(1, 2, 3, 4, 5), ids(1, 0), ids(7, 1, 4, 9, 6)}, ids(2, 5), ids(2, 5)},
		{set{ids(2, 2, 2, 2, 2, 2), ids(1, 2, 3, 4), ids(5, 7, 2, 2, 1, 0), ids(4, 7, 2, 7)}, ids(1, 3, 4, 2, 3, 2), ids(1, 3, 4, 2, 3, 2)},
		{set{ids(4), ids(1, 2, 3, 4), ids(1), ids(6, 4, 2, 7)}, ids(1), ids(2)},
		{set{ids(5, 5), ids(1, 2, 3, 4, 5), ids(1, 1), ids(7, 1, 1, 3, 10)}, ids(1, 2), ids(3, 2)},
		{set{ids(5, 1, 5), ids(1, 2, 3, 4, 5), ids(1, 0, 2), ids(8, 3, 2, 1, 10)}, ids(1, 1, 2), ids(3, 1, 2)},
		{set{ids(4, 4, 4, 4), ids(1, 2, 3, 4), ids(1, 1, 1, 2), ids(5, 1, 1, 10)}, ids(2, 3, 4, 2), ids(2, 3, 1, 2)},
		{set{ids(4, 4, 4, 4, 4), ids(1, 2, 3, 4, 5), ids(4, 3, 2, 1, 1), ids(1, 6, 1, 9, 2)}, ids(1, 5, 3, 2, 4), ids(1, 5, 3, 2, 3)},
		{set{ids(1, 1, 1, 1, 1, 1), ids(1, 2, 3, 4, 5), ids(2, 8, 2, 1, 1, 4), ids(6, 3, 9, 1, 4)}, ids(4, 4, 3, 1, 1, 5), ids(4, 4, 2, 1, 1, 5)},
	} {
		checkEven(t, c.s, c.want, api.OK)
		checkEven(t, set{c.want, c.s.members, c.s.cost, c.s.slow}, c.second, api.OK)
		if _, moves := evened(c.s); moves != len(c.s.owners) {
			t.Errorf("%v is made even with %d moves", c.s, moves)
		}
	}
}

// P10.3: all sets of few partitions, members and numbers.
func TestSmallSets(t *testing.T) {
	for workers := 1; workers <= 3; workers++ {
		for parts := 1; parts <= 3; parts++ {
			members := ids(3, 50, 99)[:workers]
			each(members, parts, func(owners []int) {
				each(ids(0, 1, 2, 4), parts, func(cost []int) {
					each(ids(1, 2, 10), workers, func(slow []int) {
						checkBoth(t, set{owners, members, cost, slow}, true)
					})
				})
			})
		}
	}
}

// P10.4: what follows from owners and others: their moves bring to the others, each partition at most once, and none that stays.
func checkThere(t *testing.T, old, fresh []int) int {
	t.Helper()
	l, err := Moves(old, fresh)
	if err != api.OK {
		t.Fatalf("Moves(%v, %v): %d", old, fresh, err)
	}
	checkApply(t, old, l, fresh, api.OK)
	differ, last := 0, -1
	for p := range old {
		if old[p] != fresh[p] {
			differ++
		}
	}
	for _, m := range l {
		if m.P <= last || m.From == m.To || m.From != old[m.P] || m.To != fresh[m.P] {
			t.Fatalf("Moves(%v, %v): %v", old, fresh, l)
		}
		last = m.P
	}
	if len(l) != differ {
		t.Fatalf("Moves(%v, %v): %v, but %d partitions go", old, fresh, l, differ)
	}
	return differ
}

// P10.4: all owners of few partitions, and owners that are drawn.
func TestMovesAndBack(t *testing.T) {
	for parts := 1; parts <= 3; parts++ {
		each(ids(1, 2, api.MaxId), parts, func(old []int) {
			each(ids(1, 2, api.MaxId), parts, func(fresh []int) { checkThere(t, old, fresh) })
		})
	}
	r := rand.New(rand.NewPCG(10, 2))
	var count [api.MaxParts + 1]int
	for range 30000 {
		old := anyOwners(r, 1+r.IntN(api.MaxParts))
		fresh := slices.Clone(old)
		for p := range fresh {
			if r.IntN(2) == 0 {
				fresh[p] = anyOf(r, append(anyOwners(r, 2), old...))
			}
		}
		count[checkThere(t, old, fresh)]++
		checkThere(t, fresh, old)
	}
	if slices.Min(count[:]) < 20 {
		t.Errorf("how often 0, 1 and more partitions go: %v", count)
	}
}

// P10.4: from what is drawn to what is even there is a way by moves.
func TestMovesToEven(t *testing.T) {
	r := rand.New(rand.NewPCG(10, 3))
	for range 10000 {
		s := anySet(r)
		even, err := Even(s.owners, s.members, s.cost, s.slow)
		if err != api.OK {
			t.Fatalf("Even of %v: %d", s, err)
		}
		checkThere(t, s.owners, even)
	}
}

// P10.3, P10.5: of whole sets: the loads, what is even, the greatest load behind, and who gets partitions.
func TestEvenDrawn(t *testing.T) {
	r := rand.New(rand.NewPCG(10, 4))
	less, same := 0, 0
	for range 60000 {
		s := anySet(r)
		want, moves := evened(s)
		checkLoads(t, s, loadsOf(s), api.OK)
		checkEven(t, s, want, api.OK)
		even, _ := Even(s.owners, s.members, s.cost, s.slow)
		old, err := Loads(s.owners, s.members, s.cost, s.slow)
		now, e := Loads(even, s.members, s.cost, s.slow)
		if err != api.OK || e != api.OK || len(old) != len(s.members) || len(now) != len(s.members) {
			t.Fatalf("Even of %v: %v; loads %v, %d, behind it %v, %d", s, even, old, err, now, e)
		}
		for p, w := range even {
			if !slices.Contains(s.members, w) {
				t.Fatalf("Even of %v: %v, partition %d is no member's", s, even, p)
			}
		}
		if slices.Max(now) > slices.Max(old) {
			t.Fatalf("Even of %v: %v; loads %v, behind it %v", s, even, old, now)
		}
		switch {
		case slices.Max(now) < slices.Max(old):
			less++
		case moves > 0:
			same++
		}
		if t.Failed() {
			t.FailNow()
		}
	}
	if less < 10000 || same < 50 {
		t.Errorf("the greatest load became less %d times, and stayed though partitions went %d times", less, same)
	}
}

// P10.6: what is even is left alone, but behind as many moves as there are partitions, where it may not be.
func TestEvenOfEven(t *testing.T) {
	r := rand.New(rand.NewPCG(10, 5))
	none, some, all, again := 0, 0, 0, 0
	for range 60000 {
		s := anySet(r)
		_, moves := evened(s)
		once, err := Even(s.owners, s.members, s.cost, s.slow)
		twice, e := Even(once, s.members, s.cost, s.slow)
		if err != api.OK || e != api.OK {
			t.Fatalf("Even of %v: %v, %d; of that %v, %d", s, once, err, twice, e)
		}
		alike := slices.Equal(once, twice)
		switch {
		case moves == len(s.owners):
			all++
			if !alike {
				again++
			}
		case !alike:
			t.Fatalf("Even of %v: %v; of that %v", s, once, twice)
		case moves > 0:
			some++
		default:
			none++
		}
	}
	if none < 5000 || some < 5000 || all < 500 || again < 50 {
		t.Errorf("no moves %d times, some %d, as many as partitions %d, and of these %d times more behind them", none, some, all, again)
	}
}

// spoil writes over a list, and over its spare room.
func spoil[T any](l []T, by T) {
	l = l[:cap(l)]
	for i := range l {
		l[i] = by
	}
}

// roomy answers a list with spare room, and the whole of it.
func roomy[T any](l []T, by T) (list, whole []T) {
	whole = append(slices.Clone(l), slices.Repeat([]T{by}, 9)...)
	return whole[:len(l)], whole
}

// checkApart: R3 of a call that is handed the pieces of wholes: these stay as they were, and share nothing with what is answered; nor does a second answer.
func checkApart[T comparable](t *testing.T, what string, by T, call func() []T, wholes ...[]int) {
	t.Helper()
	var before [][]int
	for _, l := range wholes {
		before = append(before, slices.Clone(l))
	}
	unchanged := func(when string) {
		t.Helper()
		for i, l := range wholes {
			if !slices.Equal(l, before[i]) {
				t.Fatalf("%s: %v became %v %s", what, before[i], l, when)
			}
		}
	}
	first, second := call(), call()
	unchanged("by the call")
	want := slices.Clone(first)
	if !slices.Equal(second, want) {
		t.Fatalf("%s: %v, the second time %v", what, want, second)
	}
	spoil(first, by)
	unchanged("with what was answered")
	for _, l := range wholes {
		spoil(l, -3)
	}
	if !slices.Equal(second, want) {
		t.Fatalf("%s: %v became %v with what was handed in", what, want, second)
	}
	for i, l := range wholes {
		copy(l, before[i])
	}
	if again := call(); !slices.Equal(again, want) {
		t.Fatalf("%s: %v, behind that %v", what, want, again)
	}
}

// R3: what is handed in stays as it was, its spare room too; what is answered shares no memory with it, nor with other answers.
func TestMemory(t *testing.T) {
	r := rand.New(rand.NewPCG(10, 6))
	no := Move{-9, -9, -9}
	for range 3000 {
		s := anySet(r)
		var all [4][]int
		s.owners, all[0] = roomy(s.owners, -7)
		s.members, all[1] = roomy(s.members, -7)
		s.cost, all[2] = roomy(s.cost, -7)
		s.slow, all[3] = roomy(s.slow, -7)
		if r.IntN(4) == 0 {
			l := all[r.IntN(4)]
			l[0] = 77
		}
		checkApart(t, "Loads", -3, func() []int { l, _ := Loads(s.owners, s.members, s.cost, s.slow); return l }, all[:]...)
		checkApart(t, "Even", -3, func() []int { l, _ := Even(s.owners, s.members, s.cost, s.slow); return l }, all[:]...)
		fresh, whole := roomy(anyOwners(r, len(s.owners)), -7)
		checkApart(t, "Moves", no, func() []Move { l, _ := Moves(s.owners, fresh); return l }, all[0], whole)
		checkApart(t, "Right", no, func() []Move { Right(s.owners); return nil }, all[0])
		m, _ := Moves(s.owners, fresh)
		m, moves := roomy(m, no)
		before := slices.Clone(moves)
		checkApart(t, "Apply", -3, func() []int { l, _ := Apply(s.owners, m); return l }, all[0])
		if !slices.Equal(moves, before) {
			t.Fatalf("moves %v became %v", before, moves)
		}
	}
}

// R3: one list may be handed in twice, and an answer may be handed in.
func TestOneListTwice(t *testing.T) {
	l := ids(1, 2, 3)
	checkMoves(t, l, l, nil, api.OK)
	checkLoads(t, set{l, l, l, l}, ids(1, 4, 9), api.OK)
	checkEven(t, set{l, l, l, l}, ids(3, 2, 1), api.OK)
	even, _ := Even(l, l, l, l)
	checkEven(t, set{even, l, l, l}, ids(3, 2, 1), api.OK)
	if !slices.Equal(l, ids(1, 2, 3)) || !slices.Equal(even, ids(3, 2, 1)) {
		t.Errorf("%v, %v", l, even)
	}
}

// anyNumbers answers a list of any numbers, of any length.
func anyNumbers(r *rand.Rand) []int {
	var l []int
	for range r.IntN(9) {
		l = append(l, anyOf(r, ids(lowest, -1, 0, 1, 2, 3, 10, 11, api.MaxId, api.MaxId+1, 1000, 1001, greatest, int(r.Uint64()), r.IntN(8), r.IntN(8))))
	}
	return l
}

// sound: may this set be reckoned of?
func sound(s set) (bool, bool) {
	in := func(l []int, least, most int) bool {
		return len(l) > 0 && slices.Min(l) >= least && slices.Max(l) <= most
	}
	fine := in(s.owners, 1, api.MaxId) && len(s.owners) <= api.MaxParts
	fine = fine && in(s.members, 1, api.MaxId) && len(s.members) <= api.MaxWorkers
	fine = fine && slices.IsSorted(s.members) && len(slices.Compact(slices.Clone(s.members))) == len(s.members)
	fine = fine && len(s.cost) == len(s.owners) && in(s.cost, 0, 1000) && len(s.slow) == len(s.members) && in(s.slow, 1, 10)
	stranger := slices.ContainsFunc(s.owners, func(w int) bool { return !slices.Contains(s.members, w) })
	return fine, stranger
}

// R1, R2, R4: any sets: no call panics, with an error there is nothing else, and the second time the answer is the same.
func TestAnySets(t *testing.T) {
	r := rand.New(rand.NewPCG(10, 7))
	count := map[api.Errno]int{}
	for range 60000 {
		s := anySet(r)
		for _, l := range []*[]int{&s.owners, &s.members, &s.cost, &s.slow} {
			switch r.IntN(12) {
			case 0:
				*l = anyNumbers(r)
			case 1:
				(*l)[r.IntN(len(*l))] = anyOf(r, append(anyNumbers(r), 5))
			}
		}
		fine, stranger := sound(s)
		err := api.OK
		switch {
		case !fine:
			err = api.ErrArg
		case stranger:
			err = api.ErrNone
		}
		count[err]++
		for range 2 {
			if err == api.OK {
				checkBoth(t, s, true)
			} else {
				checkWrong(t, s, err)
			}
		}
	}
	if count[api.OK] < 10000 || count[api.ErrArg] < 10000 || count[api.ErrNone] < 1000 {
		t.Errorf("how often which error: %v", count)
	}
}

// R1, R2, R4: any owners and any moves.
func TestAnyMoves(t *testing.T) {
	r := rand.New(rand.NewPCG(10, 8))
	right := func(l []int) bool {
		return len(l) >= 1 && len(l) <= api.MaxParts && slices.Min(l) >= 1 && slices.Max(l) <= api.MaxId
	}
	for range 30000 {
		old, fresh := anyNumbers(r), anyNumbers(r)
		if r.IntN(2) == 0 {
			old = anyOwners(r, 1+r.IntN(api.MaxParts))
		}
		checkRight(t, old, right(old))
		if !right(old) || !right(fresh) || len(old) != len(fresh) {
			checkMoves(t, old, fresh, nil, api.ErrArg)
		} else {
			checkThere(t, old, fresh)
		}
		var l []Move
		for range r.IntN(4) {
			few := append(anyNumbers(r), 0, 1, 2)
			l = append(l, Move{anyOf(r, few), anyOf(r, append(few, old...)), anyOf(r, few)})
		}
		want, err := []int(nil), api.ErrArg
		if right(old) {
			want, err = applied(old, l)
		}
		checkApply(t, old, l, want, err)
		checkApply(t, old, l, want, err)
	}
}
