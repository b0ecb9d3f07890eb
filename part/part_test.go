package part

import (
	"math/rand/v2"
	"slices"
	"testing"

	"haywain/api"
	"haywain/prog"
	"haywain/seq"
)

const (
	greatest = 1<<63 - 1
	lowest   = -1 << 63
)

func msgs(l ...api.Msg) []api.Msg {
	return l
}

func vals(l ...int64) []int64 {
	return l
}

// rests answers the Rest of a text: r rests, any other byte doesn't.
func rests(s string) []bool {
	var l []bool
	for i := range len(s) {
		l = append(l, s[i] == 'r')
	}
	return l
}

func job(parts int) api.Job {
	return api.Job{Prog: api.Comp, Limit: 9, Parts: parts}
}

func programs() []int {
	return []int{api.Sssp, api.Comp, api.Level, api.Most, api.Rank}
}

func sameState(a, b api.State) bool {
	return a.Step == b.Step && slices.Equal(a.Vals, b.Vals) && slices.Equal(a.Rest, b.Rest) && slices.Equal(a.In, b.In)
}

func samePart(a, b api.Part) bool {
	return a.P == b.P && a.Step == b.Step && slices.Equal(a.Vals, b.Vals) && slices.Equal(a.Rest, b.Rest) && slices.Equal(a.In, b.In)
}

func sameParts(a, b []api.Part) bool {
	return slices.EqualFunc(a, b, samePart)
}

func checkHome(t *testing.T, parts, v, want int) {
	t.Helper()
	if got := Home(api.Job{Parts: parts}, v); got != want {
		t.Errorf("Home of %d in %d parts: %d; want %d", v, parts, got, want)
	}
}

func checkCount(t *testing.T, g api.Graph, j api.Job, p, want int) {
	t.Helper()
	if got := Count(g, j, p); got != want {
		t.Errorf("Count(%v, %v, %d): %d; want %d", g, j, p, got, want)
	}
}

func checkRight(t *testing.T, g api.Graph, j api.Job, x api.Part, want bool) {
	t.Helper()
	if Right(g, j, x) != want {
		t.Errorf("Right(%v, %v, %v): %v; want %v", g, j, x, !want, want)
	}
}

func checkSplit(t *testing.T, g api.Graph, j api.Job, s api.State, want []api.Part, err api.Errno) {
	t.Helper()
	if got, e := Split(g, j, s); !sameParts(got, want) || e != err {
		t.Errorf("Split(%v, %v, %v): %v, %d; want %v, %d", g, j, s, got, e, want, err)
	}
}

func checkJoin(t *testing.T, g api.Graph, j api.Job, l []api.Part, want api.State, err api.Errno) {
	t.Helper()
	if got, e := Join(g, j, l); !sameState(got, want) || e != err {
		t.Errorf("Join(%v, %v, %v): %v, %d; want %v, %d", g, j, l, got, e, want, err)
	}
}

// wrong is a graph and a job that don't go together, and what prog.Check has of them.
type wrong struct {
	g   api.Graph
	j   api.Job
	err api.Errno
}

// wrongs answers graphs that aren't right, with jobs that would be and that wouldn't, and jobs that aren't right for their graph.
func wrongs() []wrong {
	full := api.Graph{N: api.MaxVerts}
	for i := range api.MaxEdges + 1 {
		full.Edges = append(full.Edges, api.Edge{From: i / api.MaxVerts, To: i % api.MaxVerts})
	}
	var l []wrong
	for _, j := range []api.Job{job(1), job(2), {Prog: api.Rank, Source: 1, Parts: api.MaxParts}, {}, {Prog: lowest, Source: greatest, Limit: -1, Parts: 7}} {
		l = append(l,
			wrong{api.Graph{}, j, api.ErrArg},
			wrong{api.Graph{N: -1}, j, api.ErrArg},
			wrong{api.Graph{N: lowest}, j, api.ErrArg},
			wrong{api.Graph{N: greatest}, j, api.ErrArg},
			wrong{api.Graph{N: api.MaxVerts + 1}, j, api.ErrArg},
			wrong{full, j, api.ErrFull},
			wrong{api.Graph{N: 2, Edges: []api.Edge{{From: 0, To: 2}}}, j, api.ErrNone},
			wrong{api.Graph{N: 2, Edges: []api.Edge{{From: -1, To: 0}}}, j, api.ErrNone},
			wrong{api.Graph{N: 2, Edges: []api.Edge{{W: -1}}}, j, api.ErrArg},
			wrong{api.Graph{N: 2, Edges: []api.Edge{{W: api.MaxWeight + 1}}}, j, api.ErrArg},
			wrong{api.Graph{N: 2, Edges: []api.Edge{{W: 1}, {W: 2}}}, j, api.ErrTwice},
			wrong{api.Graph{N: 2, Edges: []api.Edge{{From: 1}, {To: 1}}}, j, api.ErrState},
		)
	}
	two := api.Graph{N: 2, Edges: []api.Edge{{From: 0, To: 1, W: 7}, {From: 1, To: 0, W: 5}}}
	for _, p := range []int{lowest, -1, 0, 6, greatest} {
		l = append(l, wrong{two, api.Job{Prog: p, Limit: 9, Parts: 2}, api.ErrArg})
	}
	for _, p := range programs() {
		for _, source := range []int{lowest, -1, 2, greatest} {
			l = append(l, wrong{two, api.Job{Prog: p, Source: source, Limit: 9, Parts: 2}, api.ErrArg})
		}
		for _, limit := range []int{lowest, -1, api.MaxSteps + 1, greatest} {
			l = append(l, wrong{two, api.Job{Prog: p, Limit: limit, Parts: 2}, api.ErrArg})
		}
		for _, parts := range []int{lowest, -1, 0, api.MaxParts + 1, greatest} {
			l = append(l, wrong{two, api.Job{Prog: p, Limit: 9, Parts: parts}, api.ErrArg})
		}
	}
	return l
}

// anyGraph answers a graph that is right.
func anyGraph(r *rand.Rand) api.Graph {
	n := 1 + r.IntN(api.MaxVerts)
	if r.IntN(2) == 0 {
		n = 1 + r.IntN(api.MaxParts+1)
	}
	places := r.Perm(n * n)
	places = places[:r.IntN(1+min(len(places), api.MaxEdges))]
	slices.Sort(places)
	g := api.Graph{N: n}
	for _, p := range places {
		g.Edges = append(g.Edges, api.Edge{From: p / n, To: p % n, W: r.Int64N(api.MaxWeight + 1)})
	}
	return g
}

func anyJob(r *rand.Rand, g api.Graph) api.Job {
	return api.Job{Prog: 1 + r.IntN(5), Source: r.IntN(g.N), Limit: r.IntN(api.MaxSteps + 1), Parts: 1 + r.IntN(api.MaxParts)}
}

// anyNumber answers one of any size.
func anyNumber(r *rand.Rand) int64 {
	l := []int64{0, 1, int64(r.IntN(1000)), prog.Unit, api.Far, -5, r.Int64N(greatest), lowest, -r.Int64N(greatest)}
	return l[r.IntN(len(l))]
}

// anyState answers a state that is right, with numbers of any size.
func anyState(r *rand.Rand, g api.Graph) api.State {
	steps := []int{0, 1, api.MaxSteps, r.IntN(api.MaxSteps + 1)}
	s := api.State{Step: steps[r.IntN(len(steps))]}
	resting, coming := r.IntN(5), r.IntN(5)
	for v := range g.N {
		s.Vals = append(s.Vals, anyNumber(r))
		s.Rest = append(s.Rest, r.IntN(4) < resting)
		if r.IntN(4) < coming {
			s.In = append(s.In, api.Msg{To: v, V: anyNumber(r)})
		}
	}
	return s
}

// dealt is what the document says of a state's partitions, by other means: vertices are dealt out in turn, as cards are.
func dealt(parts int, s api.State) []api.Part {
	l := make([]api.Part, parts)
	turn, came := 0, s.In
	for v := range s.Vals {
		x := &l[turn]
		x.P, x.Step = turn, s.Step
		x.Vals, x.Rest = append(x.Vals, s.Vals[v]), append(x.Rest, s.Rest[v])
		if len(came) > 0 && came[0].To == v {
			x.In, came = append(x.In, came[0]), came[1:]
		}
		if turn++; turn == parts {
			turn = 0
		}
	}
	for p := range l {
		l[p].P, l[p].Step = p, s.Step
	}
	return l
}

// empty answers the partition P of a state at a step, of n vertices, with all values 0, none resting, and with that In.
func empty(n, parts, p, step int, in ...api.Msg) api.Part {
	x := dealt(parts, api.State{Step: step, Vals: make([]int64, n), Rest: make([]bool, n)})[p]
	x.In = in
	return x
}

// The chapter's examples.
func TestExamples(t *testing.T) {
	g, j := api.Graph{N: 5}, job(2)
	for v, p := range []int{0, 1, 0, 1, 0} {
		checkHome(t, 2, v, p)
	}
	checkCount(t, g, j, 0, 3)
	checkCount(t, g, j, 1, 2)
	s := api.State{Step: 1, Vals: vals(10, 11, 12, 13, 14), Rest: rests("r..rr"), In: msgs(api.Msg{To: 1, V: 5}, api.Msg{To: 2, V: 7})}
	l := []api.Part{
		{P: 0, Step: 1, Vals: vals(10, 12, 14), Rest: rests("r.r"), In: msgs(api.Msg{To: 2, V: 7})},
		{P: 1, Step: 1, Vals: vals(11, 13), Rest: rests(".r"), In: msgs(api.Msg{To: 1, V: 5})},
	}
	checkSplit(t, g, j, s, l, api.OK)
	checkJoin(t, g, j, l, s, api.OK)
	checkRight(t, g, j, l[0], true)
	checkRight(t, g, j, l[1], true)
}

// P7.1: the home of vertices at the edges, and of Parts.
func TestHome(t *testing.T) {
	for _, v := range []int{0, 1, 5, 6, api.MaxVerts - 1, api.MaxVerts, 1 << 32, greatest} {
		checkHome(t, 1, v, 0)
		for _, parts := range []int{lowest, -api.MaxParts, -1, 0, api.MaxParts + 1, 1 << 32, greatest} {
			checkHome(t, parts, v, -1)
		}
	}
	for parts := 1; parts <= api.MaxParts; parts++ {
		for _, v := range []int{lowest, -1 << 32, -parts - 1, -parts, 1 - 2*parts, -2, -1} {
			checkHome(t, parts, v, -1)
		}
		checkHome(t, parts, 0, 0)
		checkHome(t, parts, parts-1, parts-1)
		checkHome(t, parts, parts, 0)
		checkHome(t, parts, 2*parts-1, parts-1)
		for v := range 100 {
			checkHome(t, parts, v+parts, Home(job(parts), v))
		}
	}
	for parts, left := range []int{1: 0, 2: 1, 3: 1, 4: 3, 5: 2, 6: 1} {
		if parts > 0 {
			checkHome(t, parts, greatest, left)
		}
	}
	for _, parts := range []int{-1, 0, 1, api.MaxParts, api.MaxParts + 1} {
		checkHome(t, parts, -1, -1)
	}
}

// P7.1: Home asks for Parts alone: nothing else of a job counts.
func TestHomeOfAnyJob(t *testing.T) {
	for _, j := range []api.Job{{Parts: 3}, {Prog: lowest, Source: -1, Limit: -1, Parts: 3}, {Prog: greatest, Source: greatest, Limit: greatest, Parts: 3}} {
		if got := Home(j, 5); got != 2 {
			t.Errorf("Home(%v, 5): %d", j, got)
		}
	}
}

// P7.1: Count of partitions at the edges, of each number of Parts, also of more than there are vertices.
func TestCount(t *testing.T) {
	for n := 1; n <= api.MaxVerts; n++ {
		for parts := 1; parts <= api.MaxParts; parts++ {
			for _, p := range []int{lowest, -parts, -1, parts, parts + 1, n, 1 << 32, greatest} {
				if p < 0 || p >= parts {
					checkCount(t, api.Graph{N: n}, job(parts), p, 0)
				}
			}
			for p, x := range dealt(parts, api.State{Vals: make([]int64, n), Rest: make([]bool, n)}) {
				checkCount(t, api.Graph{N: n}, job(parts), p, len(x.Vals))
			}
		}
	}
	for p, n := range []int{1, 0, 0, 0, 0, 0} {
		checkCount(t, api.Graph{N: 1}, job(6), p, n)
	}
	for p, n := range []int{1, 1, 1, 0, 0, 0} {
		checkCount(t, api.Graph{N: 3}, job(6), p, n)
	}
	for p, n := range []int{5, 5, 5, 5, 4} {
		checkCount(t, api.Graph{N: 24}, job(5), p, n)
	}
}

// P7.1: of a graph and a job that aren't right there is nothing to count, and no partition is right.
func TestCountAndRightOfWrong(t *testing.T) {
	for _, w := range wrongs() {
		for _, p := range []int{lowest, -1, 0, 1, 2, greatest} {
			checkCount(t, w.g, w.j, p, 0)
			for n := range 4 {
				checkRight(t, w.g, w.j, api.Part{P: p, Vals: make([]int64, n), Rest: make([]bool, n)}, false)
			}
		}
	}
}

// sized answers a partition with so many Vals, Rest, and with that In.
func sized(p, step, nVals, nRest int, in ...api.Msg) api.Part {
	return api.Part{P: p, Step: step, Vals: make([]int64, nVals), Rest: make([]bool, nRest), In: in}
}

// P7.1: P, Step, Vals and Rest of a partition at their ends and beyond them.
func TestRight(t *testing.T) {
	for _, n := range []int{1, 2, 5, 6, 7, api.MaxVerts} {
		for parts := 1; parts <= api.MaxParts; parts++ {
			g, j := api.Graph{N: n}, job(parts)
			for p := range parts {
				has := len(empty(n, parts, p, 0).Vals)
				for _, step := range []int{lowest, -1, 0, 1, j.Limit, j.Limit + 1, api.MaxSteps - 1, api.MaxSteps, api.MaxSteps + 1, 1 << 32, greatest} {
					checkRight(t, g, j, sized(p, step, has, has), step >= 0 && step <= api.MaxSteps)
				}
				for nVals := range n + 2 {
					for nRest := range n + 2 {
						checkRight(t, g, j, sized(p, 3, nVals, nRest), nVals == has && nRest == has)
					}
				}
			}
			for _, p := range []int{lowest, -parts, -1, parts, parts + 1, n + 6, 1 << 32, greatest} {
				for size := range n + 1 {
					checkRight(t, g, j, sized(p, 0, size, size), false)
				}
			}
		}
	}
	checkRight(t, api.Graph{N: 2}, job(2), api.Part{}, false)
	checkRight(t, api.Graph{N: 1}, job(6), api.Part{P: 5}, true)
	checkRight(t, api.Graph{N: 3}, job(2), api.Part{Vals: vals(lowest, greatest), Rest: rests("r.")}, true)
}

// P7.1: the programs, and what else a job says, change nothing of what is right.
func TestRightWhateverJob(t *testing.T) {
	for _, p := range programs() {
		for _, limit := range []int{0, 9, api.MaxSteps} {
			for source := range 5 {
				j := api.Job{Prog: p, Source: source, Limit: limit, Parts: 2}
				checkRight(t, api.Graph{N: 5}, j, sized(0, 12, 3, 3, api.Msg{To: 4, V: lowest}), true)
				checkRight(t, api.Graph{N: 5}, j, sized(1, 12, 3, 3), false)
			}
		}
	}
}

// P7.1: what came to a partition: none, one, several; to its own vertices alone, and rising.
func TestRightIn(t *testing.T) {
	check := func(n, parts, p int, want bool, to ...int) {
		t.Helper()
		x := empty(n, parts, p, 1)
		for i, v := range to {
			x.In = append(x.In, api.Msg{To: v, V: int64(5 - i)})
		}
		checkRight(t, api.Graph{N: n}, job(parts), x, want)
	}
	check(9, 2, 0, true)
	check(9, 2, 0, true, 0)
	check(9, 2, 0, true, 8)
	check(9, 2, 0, true, 0, 2, 4, 6, 8)
	check(9, 2, 0, true, 2, 6)
	check(9, 2, 0, false, 0, 0)
	check(9, 2, 0, false, 8, 8)
	check(9, 2, 0, false, 0, 2, 2)
	check(9, 2, 0, false, 2, 0)
	check(9, 2, 0, false, 0, 4, 2, 6)
	check(9, 2, 0, false, 0, 2, 0)
	check(9, 2, 0, false, 1)
	check(9, 2, 0, false, 0, 1, 2)
	check(9, 2, 0, false, 0, 2, 3)
	check(9, 2, 1, true, 1, 3, 5, 7)
	check(9, 2, 1, false, 0)
	check(9, 2, 1, false, 1, 3, 8)
	check(9, 2, 1, false, 9)
	check(8, 2, 0, false, 8)
	check(8, 2, 0, false, 6, 8)
	check(2, 6, 3, true)
	check(2, 6, 3, false, 3)
	check(2, 6, 3, false, 0)
	check(1, 1, 0, true, 0)
	check(1, 1, 0, false, 1)
	for n := 1; n <= api.MaxVerts; n++ {
		for parts := 1; parts <= api.MaxParts; parts++ {
			for p := range parts {
				for v := -parts; v < n+2*parts; v++ {
					check(n, parts, p, v >= 0 && v < n && v%parts == p, v)
				}
				for _, v := range []int{lowest, lowest + p, -1, n, 1 << 32, greatest - parts, greatest - 1, greatest} {
					check(n, parts, p, false, v)
					check(n, parts, p, false, p, v)
					check(n, parts, p, false, v, p)
				}
			}
		}
	}
}

// P7.2: of all numbers of vertices and Parts, with partitions that have no vertex; what came: to all, to none, to one.
func TestSplit(t *testing.T) {
	for n := 1; n <= api.MaxVerts; n++ {
		for parts := 1; parts <= api.MaxParts; parts++ {
			s := api.State{Step: n}
			var in []api.Msg
			for v := range n {
				s.Vals = append(s.Vals, int64(100*v-50))
				s.Rest = append(s.Rest, v%3 == 1)
				in = append(in, api.Msg{To: v, V: int64(-v)})
			}
			checkSplit(t, api.Graph{N: n}, job(parts), s, dealt(parts, s), api.OK)
			for v := range n {
				s.In = in[v : v+1]
				checkSplit(t, api.Graph{N: n}, job(parts), s, dealt(parts, s), api.OK)
			}
			s.In = in
			checkSplit(t, api.Graph{N: n}, job(parts), s, dealt(parts, s), api.OK)
		}
	}
}

// P7.2: by hand, with more partitions than vertices, and at the ends of Step.
func TestSplitByHand(t *testing.T) {
	for _, step := range []int{0, api.MaxSteps} {
		s := api.State{Step: step, Vals: vals(lowest, greatest), Rest: rests(".r"), In: msgs(api.Msg{To: 0, V: 4}, api.Msg{To: 1, V: 3})}
		checkSplit(t, api.Graph{N: 2}, job(1), s, []api.Part{{P: 0, Step: step, Vals: s.Vals, Rest: s.Rest, In: s.In}}, api.OK)
		checkSplit(t, api.Graph{N: 2}, job(4), s, []api.Part{
			{P: 0, Step: step, Vals: vals(lowest), Rest: rests("."), In: msgs(api.Msg{To: 0, V: 4})},
			{P: 1, Step: step, Vals: vals(greatest), Rest: rests("r"), In: msgs(api.Msg{To: 1, V: 3})},
			{P: 2, Step: step}, {P: 3, Step: step},
		}, api.OK)
	}
}

// wrongStates answers states of 5 vertices that aren't right, each in another way, the last one in all.
func wrongStates() []api.State {
	of := func(step, nVals, nRest int, in ...api.Msg) api.State {
		return api.State{Step: step, Vals: make([]int64, nVals), Rest: make([]bool, nRest), In: in}
	}
	return []api.State{
		{}, of(-1, 5, 5), of(lowest, 5, 5), of(api.MaxSteps+1, 5, 5), of(greatest, 5, 5),
		of(0, 4, 5), of(0, 6, 5), of(0, 0, 5), of(0, 5, 4), of(0, 5, 6), of(0, 5, 0), of(0, 4, 4), of(0, 6, 6),
		of(0, 5, 5, api.Msg{To: -1}), of(0, 5, 5, api.Msg{To: 5}), of(0, 5, 5, api.Msg{To: lowest}), of(0, 5, 5, api.Msg{To: greatest}),
		of(0, 5, 5, api.Msg{To: 2, V: 1}, api.Msg{To: 2, V: 2}), of(0, 5, 5, api.Msg{To: 3}, api.Msg{To: 2}), of(0, 5, 5, api.Msg{To: 1}, api.Msg{To: 0}, api.Msg{To: 2}),
		of(-1, 4, 6, api.Msg{To: 5}, api.Msg{To: -1}),
	}
}

// P7.2: a state that isn't right; prog.Check's error is told ahead of it.
func TestSplitWrong(t *testing.T) {
	for _, s := range wrongStates() {
		for parts := 1; parts <= api.MaxParts; parts++ {
			checkSplit(t, api.Graph{N: 5}, job(parts), s, nil, api.ErrArg)
		}
	}
	fit := api.State{Vals: vals(1, 2), Rest: rests(".."), In: msgs(api.Msg{To: 1, V: 5})}
	for _, w := range wrongs() {
		for _, s := range append(wrongStates(), fit) {
			checkSplit(t, w.g, w.j, s, nil, w.err)
		}
	}
}

// whole answers the partitions of a state of 5 vertices in 3 parts, and the state.
func whole() ([]api.Part, api.State) {
	s := api.State{Step: 7, Vals: vals(10, 11, 12, 13, 14), Rest: rests("r..rr"), In: msgs(api.Msg{To: 0, V: 3}, api.Msg{To: 1, V: 5}, api.Msg{To: 2, V: 7}, api.Msg{To: 3, V: -9}, api.Msg{To: 4, V: 1})}
	return []api.Part{
		{P: 0, Step: 7, Vals: vals(10, 13), Rest: rests("rr"), In: msgs(api.Msg{To: 0, V: 3}, api.Msg{To: 3, V: -9})},
		{P: 1, Step: 7, Vals: vals(11, 14), Rest: rests(".r"), In: msgs(api.Msg{To: 1, V: 5}, api.Msg{To: 4, V: 1})},
		{P: 2, Step: 7, Vals: vals(12), Rest: rests("."), In: msgs(api.Msg{To: 2, V: 7})},
	}, s
}

// P7.3: by hand: what came is told by rising To, whichever partition it is of.
func TestJoin(t *testing.T) {
	l, s := whole()
	checkJoin(t, api.Graph{N: 5}, job(3), l, s, api.OK)
	for p := range l {
		l[p].In = nil
	}
	s.In = nil
	checkJoin(t, api.Graph{N: 5}, job(3), l, s, api.OK)
	checkJoin(t, api.Graph{N: 1}, job(6), []api.Part{{Vals: vals(4), Rest: rests("r")}, {P: 1}, {P: 2}, {P: 3}, {P: 4}, {P: 5}}, api.State{Vals: vals(4), Rest: rests("r")}, api.OK)
	checkJoin(t, api.Graph{N: 1}, job(1), []api.Part{{Step: api.MaxSteps, Vals: vals(4), Rest: rests(".")}}, api.State{Step: api.MaxSteps, Vals: vals(4), Rest: rests(".")}, api.OK)
}

// P7.3: lists with too few, or too many partitions.
func TestJoinHowMany(t *testing.T) {
	g := api.Graph{N: 7}
	for parts := 1; parts <= api.MaxParts; parts++ {
		s := api.State{Step: 2, Vals: make([]int64, 7), Rest: make([]bool, 7)}
		l := dealt(parts, s)
		checkJoin(t, g, job(parts), l, s, api.OK)
		checkJoin(t, g, job(parts), nil, api.State{}, api.ErrArg)
		for n := range parts {
			checkJoin(t, g, job(parts), l[:n], api.State{}, api.ErrArg)
			checkJoin(t, g, job(parts), l[parts-n:], api.State{}, api.ErrArg)
		}
		for p := range parts + 2 {
			more := l[p%parts]
			checkJoin(t, g, job(parts), append(slices.Clone(l), more), api.State{}, api.ErrArg)
			more.P = p
			checkJoin(t, g, job(parts), append(slices.Clone(l), more), api.State{}, api.ErrArg)
			checkJoin(t, g, job(parts), append(slices.Clone(l), api.Part{P: p, Step: 2}), api.State{}, api.ErrArg)
		}
	}
	checkJoin(t, api.Graph{N: 1}, job(2), []api.Part{{Vals: vals(4), Rest: rests("r")}}, api.State{}, api.ErrArg)
}

// spoiled tells what was done to a list of partitions.
type spoiled struct {
	what string
	l    []api.Part
}

// wrongLists answers what becomes of whole's list if one thing is wrong with it.
func wrongLists() []spoiled {
	var lists []spoiled
	add := func(what string, do func(l []api.Part)) {
		l, _ := whole()
		do(l)
		lists = append(lists, spoiled{what, l})
	}
	for p := range 3 {
		for _, other := range []int{lowest, -1, 0, 1, 2, 3, greatest} {
			if other != p {
				add("another P", func(l []api.Part) { l[p].P = other })
			}
		}
		for _, step := range []int{lowest, -1, 0, 6, 8, api.MaxSteps, api.MaxSteps + 1, greatest} {
			add("another Step", func(l []api.Part) { l[p].Step = step })
		}
		for other := range p {
			add("two exchanged", func(l []api.Part) { l[p], l[other] = l[other], l[p] })
			add("two P exchanged", func(l []api.Part) { l[p].P, l[other].P = other, p })
			add("one twice", func(l []api.Part) { l[p] = l[other] })
			add("one In for another", func(l []api.Part) { l[p].In = l[other].In })
		}
		add("a Val too few", func(l []api.Part) { l[p].Vals = l[p].Vals[1:] })
		add("a Val too many", func(l []api.Part) { l[p].Vals = append(l[p].Vals, 1) })
		add("a Rest too few", func(l []api.Part) { l[p].Rest = l[p].Rest[1:] })
		add("a Rest too many", func(l []api.Part) { l[p].Rest = append(l[p].Rest, true) })
		add("a message twice", func(l []api.Part) { l[p].In = append(l[p].In, l[p].In[len(l[p].In)-1]) })
		add("a message of another home", func(l []api.Part) { l[p].In[0].To++ })
		add("a message to none", func(l []api.Part) { l[p].In[0].To = -1 })
		add("a message behind all", func(l []api.Part) { l[p].In[len(l[p].In)-1].To += 6 })
		add("messages that fall", func(l []api.Part) { slices.Reverse(l[p].In); l[p].In = append(l[p].In, api.Msg{To: p}) })
		add("none at all", func(l []api.Part) { l[p] = api.Part{P: p, Step: 7} })
	}
	for _, step := range []int{lowest, -1, api.MaxSteps + 1, greatest} {
		add("a Step that may not be", func(l []api.Part) { l[0].Step, l[1].Step, l[2].Step = step, step, step })
	}
	return lists
}

// P7.3: a partition that isn't right, or of another place, or of another Step; prog.Check's error is told ahead of it.
func TestJoinWrong(t *testing.T) {
	for _, w := range wrongLists() {
		if got, e := Join(api.Graph{N: 5}, job(3), w.l); !sameState(got, api.State{}) || e != api.ErrArg {
			t.Errorf("Join of %s, %v: %v, %d", w.what, w.l, got, e)
		}
	}
	fits := dealt(2, api.State{Vals: vals(1, 2), Rest: rests("..")})
	for _, w := range wrongs() {
		checkJoin(t, w.g, w.j, nil, api.State{}, w.err)
		checkJoin(t, w.g, w.j, fits, api.State{}, w.err)
		checkJoin(t, w.g, w.j, fits[:1], api.State{}, w.err)
		for _, l := range wrongLists() {
			checkJoin(t, w.g, w.j, l.l, api.State{}, w.err)
		}
	}
}

// checkWhole: P7.2 to P7.6 of one state that is right.
func checkWhole(t *testing.T, g api.Graph, j api.Job, s api.State) {
	t.Helper()
	want := dealt(j.Parts, s)
	checkSplit(t, g, j, s, want, api.OK)
	checkJoin(t, g, j, want, s, api.OK)
	l, _ := Split(g, j, s)
	checkJoin(t, g, j, l, s, api.OK)
	back, _ := Join(g, j, l)
	checkSplit(t, g, j, back, l, api.OK)
	came := map[int][]api.Msg{}
	n, lists := 0, 0
	for p, x := range l {
		checkRight(t, g, j, x, true)
		checkCount(t, g, j, p, len(x.Vals))
		n += Count(g, j, p)
		lists += len(x.In)
		for _, m := range x.In {
			came[m.To] = append(came[m.To], m)
		}
	}
	if n != g.N {
		t.Errorf("%v, %v: the Counts are %d together", g, j, n)
	}
	if lists != len(s.In) {
		t.Errorf("Split(%v, %v, %v): %d messages came, %d are told", g, j, s, len(s.In), lists)
	}
	for _, m := range s.In {
		if !slices.Equal(came[m.To], msgs(m)) {
			t.Errorf("Split(%v, %v, %v): of the message %v there are %v", g, j, s, m, came[m.To])
		}
	}
}

// P7.4, P7.5, P7.6: of states of any kind.
func TestAnyStates(t *testing.T) {
	r := rand.New(rand.NewPCG(7, 1))
	for range 5000 {
		g := anyGraph(r)
		checkWhole(t, g, anyJob(r, g), anyState(r, g))
	}
}

// P7.4, P7.6: of the states of runs.
func TestRuns(t *testing.T) {
	r := rand.New(rand.NewPCG(7, 2))
	states := 0
	for range 300 {
		g := anyGraph(r)
		j := anyJob(r, g)
		for n := range j.Limit + 1 {
			s, err := seq.At(g, j, n)
			if err != api.OK {
				break
			}
			checkWhole(t, g, j, s)
			states++
		}
	}
	if states < 1000 {
		t.Errorf("%d states", states)
	}
}

// P7.4: Split of Join, of partitions of any kind that no state has been split into.
func TestAnyPartitions(t *testing.T) {
	r := rand.New(rand.NewPCG(7, 3))
	for range 3000 {
		g := anyGraph(r)
		j := anyJob(r, g)
		l := make([]api.Part, j.Parts)
		step := r.IntN(api.MaxSteps + 1)
		for p := range l {
			l[p].P, l[p].Step = p, step
			for v := p; v < g.N; v += j.Parts {
				l[p].Vals = append(l[p].Vals, anyNumber(r))
				l[p].Rest = append(l[p].Rest, r.IntN(2) == 0)
				if r.IntN(2) == 0 {
					l[p].In = append(l[p].In, api.Msg{To: v, V: anyNumber(r)})
				}
			}
		}
		s, err := Join(g, j, l)
		if err != api.OK || !seq.Right(g, j, s) {
			t.Errorf("Join(%v, %v, %v): %v, %d", g, j, l, s, err)
		}
		checkSplit(t, g, j, s, l, api.OK)
	}
}

// P7.5: each vertex is in one partition alone, whatever its value, and at its place by number.
func TestEachVertexOnce(t *testing.T) {
	for n := 1; n <= api.MaxVerts; n++ {
		for parts := 1; parts <= api.MaxParts; parts++ {
			s := api.State{Vals: make([]int64, n), Rest: make([]bool, n)}
			for v := range n {
				s.Vals[v] = int64(v)
			}
			l, _ := Split(api.Graph{N: n}, job(parts), s)
			var seen []int64
			sum := 0
			for p, x := range l {
				sum += Count(api.Graph{N: n}, job(parts), p)
				if !slices.IsSorted(x.Vals) {
					t.Errorf("%d vertices, %d parts: %v", n, parts, x.Vals)
				}
				for _, v := range x.Vals {
					checkHome(t, parts, int(v), p)
				}
				seen = append(seen, x.Vals...)
			}
			slices.Sort(seen)
			if !slices.Equal(seen, s.Vals) || sum != n {
				t.Errorf("%d vertices, %d parts: %v, together %d", n, parts, seen, sum)
			}
		}
	}
}

// roomy answers a list with spare room, and all of its memory.
func roomy[T any](l []T, fill T) (handed, all []T) {
	all = append(slices.Clone(l), slices.Repeat([]T{fill}, 9)...)
	return all[:len(l)], all
}

// spoil writes over a list, and over its spare room.
func spoil[T any](l []T, fill T) {
	l = l[:cap(l)]
	for i := range l {
		l[i] = fill
	}
}

// turn turns each bool of a list, and of its spare room, as either may have stood there.
func turn(l []bool) {
	l = l[:cap(l)]
	for i := range l {
		l[i] = !l[i]
	}
}

// spoilLists writes over the lists of a state or of a partition.
func spoilLists(vals []int64, rest []bool, in []api.Msg) {
	spoil(vals, -77)
	turn(rest)
	spoil(in, api.Msg{To: -7, V: -8})
}

func cloneState(s api.State) api.State {
	return api.State{Step: s.Step, Vals: slices.Clone(s.Vals), Rest: slices.Clone(s.Rest), In: slices.Clone(s.In)}
}

func clonePart(x api.Part) api.Part {
	return api.Part{P: x.P, Step: x.Step, Vals: slices.Clone(x.Vals), Rest: slices.Clone(x.Rest), In: slices.Clone(x.In)}
}

func cloneParts(l []api.Part) []api.Part {
	var c []api.Part
	for _, x := range l {
		c = append(c, clonePart(x))
	}
	return c
}

// roomyState answers a state whose lists have spare room, and all of its memory.
func roomyState(s api.State) (handed, all api.State) {
	handed.Step, all.Step = s.Step, s.Step
	handed.Vals, all.Vals = roomy(s.Vals, 91)
	handed.Rest, all.Rest = roomy(s.Rest, true)
	handed.In, all.In = roomy(s.In, api.Msg{To: 92, V: 93})
	return handed, all
}

// roomyParts answers partitions whose lists have spare room, as has theirs, and all of their memory.
func roomyParts(l []api.Part) (handed, all, lists []api.Part) {
	var given []api.Part
	for _, x := range l {
		s, room := roomyState(api.State{Vals: x.Vals, Rest: x.Rest, In: x.In})
		given = append(given, api.Part{P: x.P, Step: x.Step, Vals: s.Vals, Rest: s.Rest, In: s.In})
		lists = append(lists, api.Part{P: x.P, Step: x.Step, Vals: room.Vals, Rest: room.Rest, In: room.In})
	}
	handed, all = roomy(given, api.Part{P: 94, Step: 95})
	return handed, all, lists
}

// R3: what is handed to Split is neither changed nor kept, and what it answers shares nothing with it, nor with another answer, nor a list with another one, spare room too.
func TestMemoryOfSplit(t *testing.T) {
	r := rand.New(rand.NewPCG(7, 4))
	for range 1500 {
		g := anyGraph(r)
		j, s := anyJob(r, g), anyState(r, g)
		edges, allEdges := roomy(g.Edges, api.Edge{From: 96})
		beforeEdges := slices.Clone(allEdges)
		handed, all := roomyState(s)
		before := cloneState(all)
		room := api.Graph{N: g.N, Edges: edges}
		want := dealt(j.Parts, s)
		first, _ := Split(room, j, handed)
		again, _ := Split(room, j, handed)
		for p := range first {
			spoilLists(first[p].Vals, first[p].Rest, first[p].In)
			for i := p + 1; i < len(first); i++ {
				if !samePart(first[i], want[i]) {
					t.Errorf("Split(%v, %v, %v): partitions share memory", g, j, s)
				}
			}
		}
		spoil(first, api.Part{P: -3})
		if !sameState(all, before) || !slices.Equal(allEdges, beforeEdges) {
			t.Errorf("Split(%v, %v, %v): what was handed in was changed", g, j, s)
		}
		spoilLists(all.Vals, all.Rest, all.In)
		spoil(allEdges, api.Edge{From: 97})
		if !sameParts(again, want) {
			t.Errorf("Split(%v, %v, %v): what was handed in was kept, or shared", g, j, s)
		}
		checkSplit(t, g, j, s, want, api.OK)
	}
}

// R3: so of Join; Count and Right change nothing either.
func TestMemoryOfJoin(t *testing.T) {
	r := rand.New(rand.NewPCG(7, 5))
	for range 1500 {
		g := anyGraph(r)
		j, s := anyJob(r, g), anyState(r, g)
		edges, allEdges := roomy(g.Edges, api.Edge{From: 96})
		beforeEdges := slices.Clone(allEdges)
		handed, all, lists := roomyParts(dealt(j.Parts, s))
		before, beforeLists := cloneParts(all), cloneParts(lists)
		room := api.Graph{N: g.N, Edges: edges}
		first, _ := Join(room, j, handed)
		again, _ := Join(room, j, handed)
		for p := range handed {
			checkRight(t, room, j, handed[p], true)
			checkCount(t, room, j, p, len(handed[p].Vals))
		}
		spoilLists(first.Vals, first.Rest, first.In)
		if !sameParts(all, before) || !sameParts(lists, beforeLists) || !slices.Equal(allEdges, beforeEdges) {
			t.Errorf("Join(%v, %v, %v): what was handed in was changed", g, j, handed)
		}
		for _, x := range lists {
			spoilLists(x.Vals, x.Rest, x.In)
		}
		spoil(all, api.Part{P: -3})
		spoil(allEdges, api.Edge{From: 97})
		if !sameState(again, s) {
			t.Errorf("Join(%v, %v, ..): what was handed in was kept, or shared: %v; want %v", g, j, again, s)
		}
		checkJoin(t, g, j, dealt(j.Parts, s), s, api.OK)
	}
}

// R3: also of what isn't right nothing is changed.
func TestMemoryOfWrong(t *testing.T) {
	for _, w := range wrongLists() {
		handed, all, lists := roomyParts(w.l)
		before, beforeLists := cloneParts(all), cloneParts(lists)
		Join(api.Graph{N: 5}, job(3), handed)
		for _, x := range handed {
			Right(api.Graph{N: 5}, job(3), x)
		}
		if !sameParts(all, before) || !sameParts(lists, beforeLists) {
			t.Errorf("Join of %s, %v: what was handed in was changed", w.what, w.l)
		}
	}
	for _, s := range wrongStates() {
		handed, all := roomyState(s)
		before := cloneState(all)
		Split(api.Graph{N: 5}, job(3), handed)
		if !sameState(all, before) {
			t.Errorf("Split of %v: what was handed in was changed", s)
		}
	}
}

// R3: a nil list and an empty one are the same.
func TestNilAndEmpty(t *testing.T) {
	for _, in := range [][]api.Msg{nil, {}, make([]api.Msg, 0, 4)} {
		for _, edges := range [][]api.Edge{nil, {}, make([]api.Edge, 0, 4)} {
			g, j := api.Graph{N: 2, Edges: edges}, job(3)
			s := api.State{Vals: vals(3, 4), Rest: rests(".r"), In: in}
			checkSplit(t, g, j, s, dealt(3, s), api.OK)
			checkRight(t, g, j, api.Part{P: 2, In: in}, true)
			for _, none := range [][]int64{nil, {}, make([]int64, 0, 4)} {
				for _, rest := range [][]bool{nil, {}, make([]bool, 0, 4)} {
					l := dealt(3, s)
					l[2].Vals, l[2].Rest, l[2].In = none, rest, in
					checkRight(t, g, j, l[2], true)
					checkJoin(t, g, j, l, s, api.OK)
				}
			}
		}
	}
	for _, l := range [][]api.Part{nil, {}, make([]api.Part, 0, 4)} {
		checkJoin(t, api.Graph{N: 2}, job(1), l, api.State{}, api.ErrArg)
		checkJoin(t, api.Graph{N: 2}, job(0), l, api.State{}, api.ErrArg)
		checkJoin(t, api.Graph{}, job(0), l, api.State{}, api.ErrArg)
	}
}

// R1: any numbers in any fields: nothing panics, with an error nothing else is told, and Join takes just what its promise says.
func TestAnyArguments(t *testing.T) {
	r := rand.New(rand.NewPCG(7, 6))
	pick := func(n int) int {
		l := []int{lowest, -1, 0, 1, 2, 5, n - 1, n, n + 1, api.MaxParts, api.MaxSteps, api.MaxSteps + 1, 1 << 32, greatest}
		return l[r.IntN(len(l))]
	}
	split, joined := map[api.Errno]int{}, map[api.Errno]int{}
	for range 30000 {
		g := anyGraph(r)
		n := g.N
		j, s := anyJob(r, g), anyState(r, g)
		l := dealt(j.Parts, s)
		if r.IntN(8) == 0 {
			g.N = pick(n)
		}
		if len(g.Edges) > 0 && r.IntN(8) == 0 {
			g.Edges[r.IntN(len(g.Edges))] = api.Edge{From: pick(n), To: pick(n), W: int64(pick(n))}
		}
		if r.IntN(8) == 0 {
			j = api.Job{Prog: pick(n), Source: pick(n), Limit: pick(n), Parts: pick(n)}
		}
		x := &l[r.IntN(len(l))]
		switch r.IntN(8) {
		case 0:
			s.Step, x.Step = pick(n), pick(n)
		case 1:
			s.Vals, x.Vals = append(s.Vals, 1), append(x.Vals, 1)
		case 2:
			s.Rest, x.Rest = s.Rest[1:], append(x.Rest, false)
		case 3:
			x.P = pick(n)
		case 4:
			m := api.Msg{To: pick(n), V: int64(pick(n))}
			s.In, x.In = append(s.In, m), append(x.In, m)
		case 5:
			l = append(l, *x)
		}
		Home(j, pick(n))
		Count(g, j, pick(n))
		parts, e := Split(g, j, s)
		split[e]++
		if e != api.OK && len(parts) != 0 || (e == api.OK) != seq.Right(g, j, s) {
			t.Errorf("Split(%v, %v, %v): %v, %d", g, j, s, parts, e)
		}
		state, e := Join(g, j, l)
		joined[e]++
		fits := prog.Check(g, j) == api.OK && len(l) == j.Parts
		for p, x := range l {
			fits = Right(g, j, x) && fits && x.P == p && x.Step == l[0].Step
		}
		if e != api.OK && !sameState(state, api.State{}) || (e == api.OK) != fits {
			t.Errorf("Join(%v, %v, %v): %v, %d", g, j, l, state, e)
		}
	}
	for _, e := range []api.Errno{api.OK, api.ErrArg, api.ErrNone, api.ErrState} {
		if split[e] == 0 || joined[e] == 0 {
			t.Errorf("nothing was answered by %d: %v, %v", e, split, joined)
		}
	}
}
