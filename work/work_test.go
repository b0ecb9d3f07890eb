package work

import (
	"math/big"
	"math/rand/v2"
	"slices"
	"testing"

	"haywain/api"
	"haywain/part"
	"haywain/prog"
	"haywain/seq"
)

const (
	greatest = 1<<63 - 1
	lowest   = -1 << 63
	far      = api.Far
)

func msgs(l ...api.Msg) []api.Msg {
	return l
}

func lists(l ...[]api.Msg) [][]api.Msg {
	return l
}

func vals(l ...int64) []int64 {
	return l
}

// to answers a message.
func to(v int, val int64) api.Msg {
	return api.Msg{To: v, V: val}
}

// rests answers the Rest of a text: r rests, any other byte doesn't.
func rests(s string) []bool {
	var l []bool
	for i := range len(s) {
		l = append(l, s[i] == 'r')
	}
	return l
}

func partition(p, step int, v []int64, rest string, in ...api.Msg) api.Part {
	return api.Part{P: p, Step: step, Vals: v, Rest: rests(rest), In: in}
}

func job(p, source, parts int) api.Job {
	return api.Job{Prog: p, Source: source, Limit: 9, Parts: parts}
}

func programs() []int {
	return []int{api.Sssp, api.Comp, api.Level, api.Most, api.Rank}
}

func sameState(a, b api.State) bool {
	return a.Step == b.Step && slices.Equal(a.Vals, b.Vals) && slices.Equal(a.Rest, b.Rest) && slices.Equal(a.In, b.In)
}

func samePart(a, b api.Part) bool {
	return a.P == b.P && a.Step == b.Step && slices.Equal(a.Vals, b.Vals) && slices.Equal(a.Rest, b.Rest) && slices.Equal(a.In, b.In)
}

func sameLists(a, b [][]api.Msg) bool {
	return slices.EqualFunc(a, b, slices.Equal)
}

func checkDo(t *testing.T, g api.Graph, j api.Job, x, want api.Part, outs [][]api.Msg, err api.Errno) {
	t.Helper()
	if got, l, e := Do(g, j, x); !samePart(got, want) || !sameLists(l, outs) || e != err {
		t.Errorf("Do(%v, %v, %v): %v, %v, %d; want %v, %v, %d", g, j, x, got, l, e, want, outs, err)
	}
}

// checkNotDone: Do has that error, and nothing else.
func checkNotDone(t *testing.T, g api.Graph, j api.Job, x api.Part, err api.Errno) {
	t.Helper()
	checkDo(t, g, j, x, api.Part{}, nil, err)
}

func checkTake(t *testing.T, g api.Graph, j api.Job, x api.Part, ins [][]api.Msg, want api.Part, err api.Errno) {
	t.Helper()
	if got, e := Take(g, j, x, ins); !samePart(got, want) || e != err {
		t.Errorf("Take(%v, %v, %v, %v): %v, %d; want %v, %d", g, j, x, ins, got, e, want, err)
	}
}

// checkTakes: Take answers the partition with that In.
func checkTakes(t *testing.T, g api.Graph, j api.Job, x api.Part, ins [][]api.Msg, in ...api.Msg) {
	t.Helper()
	want := x
	want.In = in
	checkTake(t, g, j, x, ins, want, api.OK)
}

// checkNotTaken: Take has that error, and nothing else.
func checkNotTaken(t *testing.T, g api.Graph, j api.Job, x api.Part, ins [][]api.Msg, err api.Errno) {
	t.Helper()
	checkTake(t, g, j, x, ins, api.Part{}, err)
}

func checkQuiet(t *testing.T, x api.Part, want bool) {
	t.Helper()
	if Quiet(x) != want {
		t.Errorf("Quiet(%v): %v; want %v", x, !want, want)
	}
}

// pair answers the graph of the chapter's examples.
func pair() api.Graph {
	return api.Graph{N: 2, Edges: []api.Edge{{From: 0, To: 1, W: 7}, {From: 1, To: 0, W: 5}}}
}

// forks answers 5 vertices: several edges from one, several to one, in two parts to either of them.
func forks() api.Graph {
	return api.Graph{N: 5, Edges: []api.Edge{
		{From: 0, To: 1, W: 2}, {From: 0, To: 2, W: 3}, {From: 0, To: 3, W: 4},
		{From: 1, To: 3, W: 1}, {From: 2, To: 0, W: 5}, {From: 3, To: 4, W: 6}, {From: 4, To: 1, W: 1},
	}}
}

// funnel answers n vertices, from each of which an edge of that weight goes to vertex 1.
func funnel(n int, w int64) api.Graph {
	g := api.Graph{N: n}
	for v := range n {
		g.Edges = append(g.Edges, api.Edge{From: v, To: 1, W: w})
	}
	return g
}

// wrong is a graph and a job that don't go together, and what prog.Check has of them.
type wrong struct {
	g   api.Graph
	j   api.Job
	err api.Errno
}

// wrongs answers graphs that aren't right, with jobs that would be and that wouldn't, and jobs that aren't right for their graph.
func wrongs() []wrong {
	full := api.Graph{N: api.MaxVerts}
	for i := range api.MaxEdges + 1 {
		full.Edges = append(full.Edges, api.Edge{From: i / api.MaxVerts, To: i % api.MaxVerts})
	}
	var l []wrong
	for _, j := range []api.Job{job(api.Sssp, 0, 1), job(api.Comp, 0, 2), job(api.Rank, 1, api.MaxParts), {}, {Prog: lowest, Source: greatest, Limit: -1, Parts: 7}} {
		l = append(l,
			wrong{api.Graph{}, j, api.ErrArg},
			wrong{api.Graph{N: -1}, j, api.ErrArg},
			wrong{api.Graph{N: lowest}, j, api.ErrArg},
			wrong{api.Graph{N: greatest}, j, api.ErrArg},
			wrong{api.Graph{N: api.MaxVerts + 1}, j, api.ErrArg},
			wrong{full, j, api.ErrFull},
			wrong{api.Graph{N: 2, Edges: []api.Edge{{From: 0, To: 2}}}, j, api.ErrNone},
			wrong{api.Graph{N: 2, Edges: []api.Edge{{From: -1, To: 0}}}, j, api.ErrNone},
			wrong{api.Graph{N: 2, Edges: []api.Edge{{W: -1}}}, j, api.ErrArg},
			wrong{api.Graph{N: 2, Edges: []api.Edge{{W: api.MaxWeight + 1}}}, j, api.ErrArg},
			wrong{api.Graph{N: 2, Edges: []api.Edge{{W: 1}, {W: 2}}}, j, api.ErrTwice},
			wrong{api.Graph{N: 2, Edges: []api.Edge{{From: 1}, {To: 1}}}, j, api.ErrState},
		)
	}
	for _, p := range []int{lowest, -1, 0, 6, greatest} {
		l = append(l, wrong{pair(), job(p, 0, 2), api.ErrArg})
	}
	for _, p := range programs() {
		for _, source := range []int{lowest, -1, 2, greatest} {
			l = append(l, wrong{pair(), job(p, source, 2), api.ErrArg})
		}
		for _, limit := range []int{lowest, -1, api.MaxSteps + 1, greatest} {
			l = append(l, wrong{pair(), api.Job{Prog: p, Limit: limit, Parts: 2}, api.ErrArg})
		}
		for _, parts := range []int{lowest, -1, 0, api.MaxParts + 1, greatest} {
			l = append(l, wrong{pair(), job(p, 0, parts), api.ErrArg})
		}
	}
	return l
}

// anyGraph answers a graph that is right, its weights small or of any size.
func anyGraph(r *rand.Rand) api.Graph {
	n := 1 + r.IntN(api.MaxVerts)
	if r.IntN(2) == 0 {
		n = 1 + r.IntN(api.MaxParts+1)
	}
	weights := []int64{10, api.MaxWeight}[r.IntN(2)]
	places := r.Perm(n * n)
	places = places[:r.IntN(1+min(len(places), api.MaxEdges))]
	slices.Sort(places)
	g := api.Graph{N: n}
	for _, p := range places {
		g.Edges = append(g.Edges, api.Edge{From: p / n, To: p % n, W: r.Int64N(weights + 1)})
	}
	return g
}

func anyJob(r *rand.Rand, g api.Graph) api.Job {
	return api.Job{Prog: 1 + r.IntN(5), Source: r.IntN(g.N), Limit: r.IntN(api.MaxSteps + 1), Parts: 1 + r.IntN(api.MaxParts)}
}

// anyNumber answers one, mostly small, else of any size, 0 and above.
func anyNumber(r *rand.Rand) int64 {
	l := []int64{0, 1, prog.Unit, r.Int64N(greatest), far, 1 << 62}
	if i := r.IntN(40); i < len(l) {
		return l[i]
	}
	return int64(r.IntN(1000))
}

// anyState answers a state that is right, by that source of numbers.
func anyState(r *rand.Rand, g api.Graph, number func(r *rand.Rand) int64) api.State {
	steps := []int{0, 0, 1, api.MaxSteps - 1, api.MaxSteps, r.IntN(api.MaxSteps + 1)}
	s := api.State{Step: steps[r.IntN(len(steps))]}
	resting, coming := r.IntN(5), r.IntN(5)
	for v := range g.N {
		s.Vals = append(s.Vals, number(r))
		s.Rest = append(s.Rest, r.IntN(4) < resting)
		if r.IntN(4) < coming {
			s.In = append(s.In, to(v, number(r)))
		}
	}
	return s
}

// heavy answers a number of which two are too great together, but not their shares.
func heavy(r *rand.Rand) int64 {
	return greatest/2 + r.Int64N(greatest/2)
}

// eitherSign answers a number above or below 0.
func eitherSign(r *rand.Rand) int64 {
	if r.IntN(20) == 0 {
		return lowest
	}
	return anyNumber(r) * int64(1-2*r.IntN(2))
}

// wantedDo is what the document says of Do, by other means: a whole state, of which all vertices of other homes rest, and nothing came to them, a superstep further.
func wantedDo(g api.Graph, j api.Job, x api.Part) (api.Part, [][]api.Msg, api.Errno) {
	s := api.State{Step: x.Step, Vals: make([]int64, g.N), Rest: slices.Repeat([]bool{true}, g.N), In: x.In}
	i := 0
	for v := x.P; v < g.N; v += j.Parts {
		s.Vals[v], s.Rest[v] = x.Vals[i], x.Rest[i]
		i++
	}
	next, err := seq.Step(g, j, s)
	if err != api.OK {
		return api.Part{}, nil, err
	}
	outs := make([][]api.Msg, j.Parts)
	for _, m := range next.In {
		outs[m.To%j.Parts] = append(outs[m.To%j.Parts], m)
	}
	y := api.Part{P: x.P, Step: x.Step + 1}
	for v := x.P; v < g.N; v += j.Parts {
		y.Vals, y.Rest = append(y.Vals, next.Vals[v]), append(y.Rest, next.Rest[v])
	}
	return y, outs, api.OK
}

// wantedIn is what the document says of what is folded, by other means: the numbers to each vertex are picked out, and reckoned with by big ones.
func wantedIn(p, n int, ins [][]api.Msg) ([]api.Msg, api.Errno) {
	var in []api.Msg
	for v := range n {
		var l []int64
		for _, m := range slices.Concat(ins...) {
			if m.To == v {
				l = append(l, m.V)
			}
		}
		if len(l) == 0 {
			continue
		}
		slices.Sort(l)
		val, ok := wantedFold(p, l)
		if !ok {
			return nil, api.ErrOver
		}
		in = append(in, to(v, val))
	}
	return in, api.OK
}

// wantedFold answers what numbers in order are folded into; false: a sum on the way is too great.
func wantedFold(p int, l []int64) (int64, bool) {
	switch p {
	case api.Rank:
		sum := new(big.Int)
		for _, v := range l {
			if sum.Add(sum, big.NewInt(v)); !sum.IsInt64() {
				return 0, false
			}
		}
		return sum.Int64(), true
	case api.Most:
		return l[len(l)-1], true
	}
	return l[0], true
}

// The chapter's examples.
func TestExamples(t *testing.T) {
	g, j := pair(), job(api.Sssp, 0, 2)
	checkDo(t, g, j, partition(0, 0, vals(0), "."), partition(0, 1, vals(0), "r"), lists(nil, msgs(to(1, 7))), api.OK)
	checkDo(t, g, j, partition(1, 0, vals(far), "."), partition(1, 1, vals(far), "r"), lists(nil, nil), api.OK)
	checkTake(t, g, j, partition(1, 1, vals(far), "r"), lists(msgs(to(1, 7)), nil), partition(1, 1, vals(far), "r", to(1, 7)), api.OK)
}

// P8.1: the first superstep of each program, in two parts.
func TestDoFirst(t *testing.T) {
	g := forks()
	three, two := partition(0, 1, nil, "rrr"), partition(1, 1, nil, "rr")
	check := func(j api.Job, x, want api.Part, outs ...[]api.Msg) {
		t.Helper()
		want.Vals = x.Vals
		checkDo(t, g, j, x, want, outs, api.OK)
	}
	check(job(api.Sssp, 0, 2), partition(0, 0, vals(0, far, far), "..."), three, msgs(to(2, 3)), msgs(to(1, 2), to(3, 4)))
	check(job(api.Sssp, 0, 2), partition(1, 0, vals(far, far), ".."), two, nil, nil)
	check(job(api.Sssp, 3, 2), partition(1, 0, vals(far, 0), ".."), two, msgs(to(4, 6)), nil)
	check(job(api.Comp, 0, 2), partition(0, 0, vals(0, 2, 4), "..."), three, msgs(to(0, 2), to(2, 0)), msgs(to(1, 0), to(3, 0)))
	check(job(api.Comp, 0, 2), partition(1, 0, vals(1, 3), ".."), two, msgs(to(4, 3)), msgs(to(3, 1)))
	check(job(api.Level, 2, 2), partition(0, 0, vals(far, 0, far), "..."), three, msgs(to(0, 1)), nil)
	check(job(api.Level, 2, 2), partition(1, 0, vals(far, far), ".."), two, nil, nil)
	check(job(api.Most, 0, 2), partition(0, 0, vals(7, 131, 503), "..."), three, msgs(to(0, 131), to(2, 7)), msgs(to(1, 503), to(3, 7)))
	check(job(api.Most, 0, 2), partition(1, 0, vals(38, 286), ".."), two, msgs(to(4, 286)), msgs(to(3, 38)))
	three.Rest, two.Rest = rests("..."), rests("..")
	check(job(api.Rank, 0, 2), partition(0, 0, vals(1000000, 1000000, 1000000), "..."), three, msgs(to(0, 1000000), to(2, 333333)), msgs(to(1, 1333333), to(3, 333333)))
	check(job(api.Rank, 0, 2), partition(1, 0, vals(1000000, 1000000), ".."), two, msgs(to(4, 1000000)), msgs(to(3, 1000000)))
}

// P8.1: who takes a turn: one that does not rest, or to which something came; all others keep their value, and rest.
func TestDoWhoTurns(t *testing.T) {
	g := forks()
	rank := job(api.Rank, 0, 2)
	checkDo(t, g, rank, partition(0, 1, vals(11, 12, 13), "rrr"), partition(0, 2, vals(11, 12, 13), "rrr"), lists(nil, nil), api.OK)
	checkDo(t, g, rank, partition(0, 1, vals(11, 12, 13), "r.r"), partition(0, 2, vals(11, 150000, 13), "r.r"), lists(msgs(to(0, 150000)), nil), api.OK)
	checkDo(t, g, rank, partition(0, 1, vals(11, 12, 13), "rrr", to(4, 100)), partition(0, 2, vals(11, 12, 150085), "rr."), lists(nil, msgs(to(1, 150085))), api.OK)
	checkDo(t, g, rank, partition(0, 1, vals(11, 12, 13), ".r.", to(0, 0), to(2, 200)), partition(0, 2, vals(150000, 150170, 150000), "..."), lists(msgs(to(0, 150170), to(2, 50000)), msgs(to(1, 200000), to(3, 50000))), api.OK)
	checkDo(t, g, rank, partition(1, 1, vals(11, 12), ".r", to(1, -100)), partition(1, 2, vals(149915, 12), ".r"), lists(nil, msgs(to(3, 149915))), api.OK)
	checkDo(t, g, rank, partition(0, 9, vals(11, 12, 13), "..r"), partition(0, 10, vals(150000, 150000, 13), "..r"), lists(msgs(to(0, 150000), to(2, 50000)), msgs(to(1, 50000), to(3, 50000))), api.OK)
	checkDo(t, g, rank, partition(0, 10, vals(11, 12, 13), "..r"), partition(0, 11, vals(150000, 150000, 13), "rrr"), lists(nil, nil), api.OK)
	sssp := job(api.Sssp, 0, 2)
	checkDo(t, g, sssp, partition(1, 1, vals(far, far), "rr", to(1, 2), to(3, 4)), partition(1, 2, vals(2, 4), "rr"), lists(msgs(to(4, 10)), msgs(to(3, 3))), api.OK)
	checkDo(t, g, sssp, partition(1, 2, vals(2, 4), "rr", to(3, 3)), partition(1, 3, vals(2, 3), "rr"), lists(msgs(to(4, 9)), nil), api.OK)
	checkDo(t, g, sssp, partition(1, 2, vals(2, 4), "r.", to(1, 2)), partition(1, 3, vals(2, 4), "rr"), lists(nil, nil), api.OK)
	checkDo(t, g, sssp, partition(0, 0, vals(0, far, far), "rrr"), partition(0, 1, vals(0, far, far), "rrr"), lists(nil, nil), api.OK)
	checkDo(t, g, sssp, partition(0, 0, vals(0, far, far), "rrr", to(0, 9)), partition(0, 1, vals(0, far, far), "rrr"), lists(msgs(to(2, 3)), msgs(to(1, 2), to(3, 4))), api.OK)
	most := job(api.Most, 0, 2)
	checkDo(t, g, most, partition(0, 5, vals(7, 131, 503), "r.r", to(0, 131), to(4, 503)), partition(0, 6, vals(131, 131, 503), "rrr"), lists(msgs(to(2, 131)), msgs(to(1, 131), to(3, 131))), api.OK)
}

// P8.1: with 1 part all goes to that one; with MaxParts, and with more than there are vertices, each has a list.
func TestDoParts(t *testing.T) {
	comp := func(parts int) api.Job { return job(api.Comp, 0, parts) }
	checkDo(t, forks(), comp(1), partition(0, 0, vals(0, 1, 2, 3, 4), "....."), partition(0, 1, vals(0, 1, 2, 3, 4), "rrrrr"),
		lists(msgs(to(0, 2), to(1, 0), to(2, 0), to(3, 0), to(4, 3))), api.OK)
	checkDo(t, forks(), comp(6), partition(0, 0, vals(0), "."), partition(0, 1, vals(0), "r"),
		lists(nil, msgs(to(1, 0)), msgs(to(2, 0)), msgs(to(3, 0)), nil, nil), api.OK)
	checkDo(t, forks(), comp(6), partition(4, 0, vals(4), "."), partition(4, 1, vals(4), "r"), lists(nil, msgs(to(1, 4)), nil, nil, nil, nil), api.OK)
	ring := api.Graph{N: api.MaxVerts}
	for v := range ring.N {
		ring.Edges = append(ring.Edges, api.Edge{From: v, To: (v + 1) % ring.N, W: 1})
	}
	checkDo(t, ring, comp(6), partition(5, 0, vals(5, 11, 17, 23), "...."), partition(5, 1, vals(5, 11, 17, 23), "rrrr"),
		lists(msgs(to(0, 23), to(6, 5), to(12, 11), to(18, 17)), nil, nil, nil, nil, nil), api.OK)
	for _, p := range programs() {
		for parts := 2; parts <= api.MaxParts; parts++ {
			for home := 1; home < parts; home++ {
				for _, step := range []int{0, 1, api.MaxSteps - 1} {
					checkDo(t, api.Graph{N: 1}, job(p, 0, parts), api.Part{P: home, Step: step}, api.Part{P: home, Step: step + 1}, make([][]api.Msg, parts), api.OK)
				}
			}
		}
	}
}

// P8.1: a partition at the ends of Step; a job's Limit stops nothing.
func TestDoSteps(t *testing.T) {
	for _, p := range programs() {
		for _, limit := range []int{0, 9, api.MaxSteps} {
			j := api.Job{Prog: p, Limit: limit, Parts: 2}
			for step := range api.MaxSteps {
				checkDo(t, pair(), j, partition(1, step, vals(5), "r"), partition(1, step+1, vals(5), "r"), lists(nil, nil), api.OK)
			}
			checkNotDone(t, pair(), j, partition(1, api.MaxSteps, vals(5), "r"), api.ErrState)
			checkNotDone(t, pair(), j, partition(1, api.MaxSteps, vals(5), ".", to(1, 4)), api.ErrState)
			checkNotDone(t, pair(), j, partition(0, api.MaxSteps, vals(5), "."), api.ErrState)
			checkNotDone(t, api.Graph{N: 1}, j, api.Part{P: 1, Step: api.MaxSteps}, api.ErrState)
		}
	}
	j := job(api.Rank, 0, 2)
	checkDo(t, pair(), j, partition(1, api.MaxSteps-1, vals(5), ".", to(1, 100)), partition(1, api.MaxSteps, vals(150085), "r"), lists(nil, nil), api.OK)
}

// P8.1: a number that is too great: in a turn, and in a folding of what was sent, to the own partition and to another one.
func TestDoTooGreat(t *testing.T) {
	g := api.Graph{N: 3, Edges: []api.Edge{{From: 0, To: 1, W: 1 << 62}, {From: 1, To: 2, W: 1 << 62}}}
	checkNotDone(t, g, job(api.Sssp, 0, 3), partition(1, 1, vals(far), "r", to(1, 1<<62)), api.ErrOver)
	checkDo(t, g, job(api.Sssp, 0, 3), partition(1, 1, vals(far), "r", to(1, 1<<62-1)), partition(1, 2, vals(1<<62-1), "r"), lists(nil, nil, msgs(to(2, greatest))), api.OK)
	checkNotDone(t, g, job(api.Level, 0, 3), partition(0, 0, vals(greatest), "."), api.ErrOver)
	checkDo(t, g, job(api.Level, 0, 3), partition(0, 0, vals(greatest-1), "."), partition(0, 1, vals(greatest-1), "r"), lists(nil, msgs(to(1, greatest)), nil), api.OK)
	checkNotDone(t, g, job(api.Rank, 0, 3), partition(2, 1, vals(0), "r", to(2, greatest/85+1)), api.ErrOver)
	checkNotDone(t, g, job(api.Rank, 0, 3), partition(2, api.MaxSteps-1, vals(0), ".", to(2, lowest)), api.ErrOver)
	for _, parts := range []int{1, 2} {
		n := 3 * parts
		rank, has := job(api.Rank, 0, parts), partition(0, 0, vals(1<<62, 0, 1<<62-1), "...")
		most, outs := job(api.Most, 0, parts), make([][]api.Msg, parts)
		home := 1 % parts
		outs[home] = msgs(to(1, greatest))
		checkDo(t, funnel(n, 1), rank, has, partition(0, 1, has.Vals, "..."), outs, api.OK)
		has.Vals = vals(1<<62, 0, 1<<62)
		checkNotDone(t, funnel(n, 1), rank, has, api.ErrOver)
		outs[home] = msgs(to(1, 1<<62))
		checkDo(t, funnel(n, 1), most, has, partition(0, 1, has.Vals, "rrr"), outs, api.OK)
		has.Vals = vals(lowest, 0, -1)
		checkNotDone(t, funnel(n, 1), rank, has, api.ErrOver)
	}
	// Told in order, the first two are too great, though all three are not.
	checkNotDone(t, funnel(6, 1), job(api.Rank, 0, 2), partition(0, 0, vals(5, lowest, -1), "..."), api.ErrOver)
	checkNotDone(t, funnel(6, 1), job(api.Rank, 0, 2), partition(1, 0, vals(1<<62, 1<<62, 1<<62), "..."), api.ErrOver)
	own := api.Graph{N: 3, Edges: []api.Edge{{From: 0, To: 2}, {From: 2, To: 2}}}
	checkNotDone(t, own, job(api.Rank, 0, 2), partition(0, 0, vals(1<<62, 1<<62), ".."), api.ErrOver)
	checkDo(t, own, job(api.Rank, 0, 2), partition(0, 0, vals(1<<62, 1<<62), ".r"), partition(0, 1, vals(1<<62, 1<<62), ".r"), lists(msgs(to(2, 1<<62)), nil), api.OK)
}

// wrongParts answers partitions of 5 vertices in 2 parts that aren't right, each in another way.
func wrongParts() []api.Part {
	l := []api.Part{
		{}, {P: 2}, {P: 5}, {P: -1}, {P: lowest}, {P: greatest},
		partition(1, 0, vals(1, 2, 3), "..."), partition(0, 0, vals(1, 2), ".."), partition(2, 0, vals(1, 2, 3), "..."), partition(-1, 0, vals(1, 2), ".."),
		partition(0, 0, vals(1, 2), "..."), partition(0, 0, vals(1, 2, 3, 4), "..."), partition(0, 0, nil, "..."),
		partition(0, 0, vals(1, 2, 3), ".."), partition(0, 0, vals(1, 2, 3), "...."), partition(0, 0, vals(1, 2, 3), ""),
	}
	for _, step := range []int{lowest, -1, api.MaxSteps + 1, 1 << 32, greatest} {
		l = append(l, partition(0, step, vals(1, 2, 3), "..."), partition(1, step, vals(1, 2), ".."))
	}
	for _, in := range [][]api.Msg{msgs(to(1, 5)), msgs(to(-1, 5)), msgs(to(-2, 5)), msgs(to(5, 5)), msgs(to(6, 5)), msgs(to(0, 1), to(0, 2)), msgs(to(2, 5), to(0, 5)), msgs(to(0, 1), to(2, 2), to(3, 3)), msgs(to(lowest, 5)), msgs(to(greatest, 5))} {
		l = append(l, partition(0, 0, vals(1, 2, 3), "rrr", in...))
	}
	return l
}

// P8.1, R2: the order of errors: the graph's, the job's, the partition's, then MaxSteps, then numbers too great; with one nothing else is told.
func TestDoWrong(t *testing.T) {
	fits := []api.Part{partition(0, 0, vals(1), "."), partition(0, 0, vals(1, 2), ".."), partition(1, 3, vals(2), "r", to(1, 4)), partition(0, api.MaxSteps, vals(1), "."), partition(0, 0, vals(greatest), ".")}
	for _, w := range wrongs() {
		for _, x := range slices.Concat(fits, wrongParts()) {
			checkNotDone(t, w.g, w.j, x, w.err)
		}
	}
	for _, p := range programs() {
		for _, x := range wrongParts() {
			checkNotDone(t, forks(), job(p, 0, 2), x, api.ErrArg)
			if x.Step == 0 {
				x.Step = api.MaxSteps
				checkNotDone(t, forks(), job(p, 0, 2), x, api.ErrArg)
			}
		}
	}
	over := funnel(5, 1)
	rank, great := job(api.Rank, 0, 2), vals(1<<62, 1<<62, 1<<62)
	checkNotDone(t, over, rank, partition(0, 0, great, "..."), api.ErrOver)
	checkNotDone(t, over, rank, partition(0, api.MaxSteps, great, "...", to(0, greatest)), api.ErrState)
	checkNotDone(t, over, rank, partition(0, 0, great, "...", to(0, greatest), to(1, greatest)), api.ErrArg)
	checkNotDone(t, over, rank, partition(0, api.MaxSteps, great, "...", to(0, greatest), to(5, greatest)), api.ErrArg)
	checkNotDone(t, over, rank, partition(0, api.MaxSteps+1, great, "..."), api.ErrArg)
	checkNotDone(t, over, rank, partition(0, -1, great, "..."), api.ErrArg)
	checkNotDone(t, over, job(api.Rank, 5, 2), partition(0, api.MaxSteps, great, "..."), api.ErrArg)
	over.Edges[0], over.Edges[1] = over.Edges[1], over.Edges[0]
	checkNotDone(t, over, rank, partition(0, api.MaxSteps, great, "...", to(1, 1)), api.ErrState)
	checkNotDone(t, over, job(api.Rank, 5, 2), partition(0, 0, great, "..."), api.ErrState)
	over.Edges[1] = over.Edges[0]
	checkNotDone(t, over, job(0, 5, 2), partition(0, api.MaxSteps, great, "...", to(1, 1)), api.ErrTwice)
}

// P8.1: partitions of any kind, each program, numbers of any size.
func TestDoOfAny(t *testing.T) {
	r := rand.New(rand.NewPCG(8, 1))
	told := map[api.Errno]int{}
	for range 4000 {
		g := anyGraph(r)
		j := anyJob(r, g)
		l, _ := part.Split(g, j, anyState(r, g, eitherSign))
		for _, x := range l {
			want, outs, err := wantedDo(g, j, x)
			checkDo(t, g, j, x, want, outs, err)
			told[err]++
		}
	}
	for _, err := range []api.Errno{api.OK, api.ErrState, api.ErrOver} {
		if told[err] < 100 {
			t.Errorf("too few were told %d: %v", err, told)
		}
	}
}

// P8.2: lists that are nil, empty, with one message, with several to one vertex, within one list and in different ones, of each program.
func TestTake(t *testing.T) {
	g, x := forks(), partition(0, 4, vals(11, 12, 13), "r.r")
	for _, p := range programs() {
		j := job(p, 0, 2)
		for _, ins := range [][][]api.Msg{nil, {}, {nil}, {{}}, {nil, {}, nil}, make([][]api.Msg, 9)} {
			checkTakes(t, g, j, x, ins)
		}
		three := msgs(to(0, 5), to(2, -6), to(4, 7))
		checkTakes(t, g, j, x, lists(three), three...)
		checkTakes(t, g, j, x, lists(msgs(to(4, 7), to(0, 5), to(2, -6))), three...)
		checkTakes(t, g, j, x, lists(msgs(to(4, 7)), nil, msgs(to(2, -6)), msgs(to(0, 5))), three...)
		checkTakes(t, g, j, x, lists(nil, nil, nil, nil, nil, nil, nil, msgs(to(2, 8))), to(2, 8))
		in := msgs(to(2, 3), to(4, 1))
		switch p {
		case api.Most:
			in = msgs(to(2, 9), to(4, 1))
		case api.Rank:
			in = msgs(to(2, 19), to(4, 2))
		}
		checkTakes(t, g, j, x, lists(msgs(to(2, 7), to(4, 1), to(2, 3), to(2, 9), to(4, 1))), in...)
		checkTakes(t, g, j, x, lists(msgs(to(2, 7), to(4, 1)), msgs(to(2, 3), to(2, 9)), msgs(to(4, 1))), in...)
		checkTakes(t, g, j, x, lists(msgs(to(2, 9)), msgs(to(4, 1)), nil, msgs(to(4, 1)), msgs(to(2, 7)), msgs(to(2, 3))), in...)
	}
}

// P8.2: at each Step, MaxSteps too, and whoever rests; of a partition without vertices; all but In stays.
func TestTakeStays(t *testing.T) {
	for _, p := range programs() {
		for parts := 1; parts <= api.MaxParts; parts++ {
			j := job(p, 0, parts)
			for home := range parts {
				for step := range api.MaxSteps + 1 {
					s := api.State{Step: step, Vals: vals(lowest, 3, greatest), Rest: rests("r.r")}
					l, _ := part.Split(api.Graph{N: 3}, j, s)
					checkTakes(t, api.Graph{N: 3}, j, l[home], lists(nil))
					if home < 3 {
						checkTakes(t, api.Graph{N: 3}, j, l[home], lists(nil, msgs(to(home, 4))), to(home, 4))
					} else {
						checkNotTaken(t, api.Graph{N: 3}, j, l[home], lists(msgs(to(home, 4))), api.ErrArg)
					}
				}
			}
		}
	}
}

// P8.2: a message to a vertex of another home, or to none, alone, ahead of others and behind them; a partition whose In isn't empty.
func TestTakeNotOwn(t *testing.T) {
	for n := 1; n <= api.MaxVerts; n++ {
		for parts := 1; parts <= api.MaxParts; parts++ {
			g, j := api.Graph{N: n}, job(api.Comp, 0, parts)
			l, _ := part.Split(g, j, api.State{Vals: make([]int64, n), Rest: make([]bool, n)})
			for p := range min(n, parts) {
				for v := -2 * parts; v < n+2*parts; v++ {
					if v >= 0 && v < n && v%parts == p {
						checkTakes(t, g, j, l[p], lists(msgs(to(v, 3))), to(v, 3))
					} else {
						checkNotTaken(t, g, j, l[p], lists(msgs(to(v, 3))), api.ErrArg)
					}
				}
				for _, v := range []int{lowest, lowest + p, -1, n, 1 << 32, greatest - p, greatest} {
					checkNotTaken(t, g, j, l[p], lists(nil, msgs(to(p, 1), to(v, 3))), api.ErrArg)
					checkNotTaken(t, g, j, l[p], lists(msgs(to(v, 3), to(p, 1))), api.ErrArg)
					checkNotTaken(t, g, j, l[p], lists(msgs(to(p, 3)), msgs(to(v, 1)), msgs(to(p, 3))), api.ErrArg)
				}
				x := l[p]
				x.In = msgs(to(p, 5))
				for _, ins := range [][][]api.Msg{nil, {nil}, {x.In}, {{to(p, 4)}}, {{to(-1, 4)}}} {
					checkNotTaken(t, g, j, x, ins, api.ErrArg)
				}
			}
		}
	}
}

// P8.2: a folding that is too great, within one list and over several; the others fold the same messages.
func TestTakeTooGreat(t *testing.T) {
	g, x := forks(), partition(1, 2, vals(11, 12), "..")
	rank := job(api.Rank, 0, 2)
	for _, l := range [][]api.Msg{
		msgs(to(1, greatest), to(1, 1)),
		msgs(to(1, 5), to(3, 1<<62), to(3, 1<<62)),
		msgs(to(3, lowest), to(3, -1)),
		msgs(to(1, 1<<62), to(1, 1<<61), to(1, 1<<61), to(3, 4)),
		msgs(to(3, 5), to(3, -1), to(3, lowest)),
		msgs(to(1, greatest), to(3, 1), to(3, greatest)),
	} {
		checkNotTaken(t, g, rank, x, lists(l), api.ErrOver)
		var ins [][]api.Msg
		for _, m := range l {
			ins = append(ins, msgs(m), nil)
			checkTakes(t, g, rank, x, lists(nil, msgs(m)), m)
		}
		checkNotTaken(t, g, rank, x, ins, api.ErrOver)
		for _, p := range []int{api.Sssp, api.Comp, api.Level, api.Most} {
			in, _ := wantedIn(p, g.N, ins)
			checkTakes(t, g, job(p, 0, 2), x, ins, in...)
		}
		for _, v := range []int{-1, 0, 2, 5, 7} {
			checkNotTaken(t, g, rank, x, append(ins, msgs(to(v, 1))), api.ErrArg)
		}
		full := x
		full.In = msgs(to(1, 1))
		checkNotTaken(t, g, rank, full, ins, api.ErrArg)
	}
	checkTakes(t, g, rank, x, lists(msgs(to(1, greatest), to(1, lowest)), msgs(to(3, 1<<62)), msgs(to(3, 1<<62-1))), to(1, -1), to(3, greatest))
	checkTakes(t, g, rank, x, lists(msgs(to(1, greatest)), msgs(to(1, 0))), to(1, greatest))
	// In order, lowest is folded first, so no sum on the way is too great.
	checkTakes(t, g, rank, x, lists(msgs(to(1, 1<<62)), msgs(to(1, 1<<62)), msgs(to(1, lowest))), to(1, 0))
}

// P8.2, R2: the order of errors: the graph's, the job's, the partition's, then numbers too great; with one nothing else is told.
func TestTakeWrong(t *testing.T) {
	some := [][][]api.Msg{nil, {}, {msgs(to(0, 1))}, {msgs(to(1, 1)), msgs(to(-1, 2))}, {msgs(to(0, greatest), to(0, greatest))}}
	fits := []api.Part{partition(0, 0, vals(1), "."), partition(0, 0, vals(1, 2), ".."), partition(1, 3, vals(2), "r", to(1, 4)), partition(0, api.MaxSteps, vals(1), ".")}
	for _, ins := range some {
		for _, w := range wrongs() {
			for _, x := range slices.Concat(fits, wrongParts()) {
				checkNotTaken(t, w.g, w.j, x, ins, w.err)
			}
		}
		for _, p := range programs() {
			for _, x := range wrongParts() {
				checkNotTaken(t, forks(), job(p, 0, 2), x, ins, api.ErrArg)
			}
		}
	}
}

// anyLists answers lists of messages to vertices of one home, several of them to one vertex.
func anyLists(r *rand.Rand, n, parts, p int, number func(r *rand.Rand) int64) [][]api.Msg {
	ins := make([][]api.Msg, r.IntN(8))
	for i := range ins {
		for v := p; v < n; v += parts {
			for range r.IntN(3) {
				ins[i] = append(ins[i], to(v, number(r)))
			}
		}
		r.Shuffle(len(ins[i]), func(a, b int) { ins[i][a], ins[i][b] = ins[i][b], ins[i][a] })
	}
	return ins
}

// anyPart answers a partition that is right, and to which nothing came.
func anyPart(r *rand.Rand, g api.Graph, j api.Job) api.Part {
	l, _ := part.Split(g, j, anyState(r, g, eitherSign))
	x := l[r.IntN(len(l))]
	x.In = nil
	return x
}

// P8.2: lists of any kind, however they are ordered and grouped.
func TestTakeOfAny(t *testing.T) {
	r := rand.New(rand.NewPCG(8, 2))
	told := map[api.Errno]int{}
	for range 6000 {
		g := anyGraph(r)
		j := anyJob(r, g)
		x := anyPart(r, g, j)
		ins := anyLists(r, g.N, j.Parts, x.P, eitherSign)
		in, err := wantedIn(j.Prog, g.N, ins)
		told[err]++
		want := x
		want.In = in
		if err != api.OK {
			want = api.Part{}
		}
		checkTake(t, g, j, x, ins, want, err)
		slices.Reverse(ins)
		checkTake(t, g, j, x, ins, want, err)
		checkTake(t, g, j, x, lists(slices.Concat(ins...)), want, err)
	}
	if told[api.OK] < 1000 || told[api.ErrOver] < 100 {
		t.Errorf("told: %v", told)
	}
}

// P8.2: Quiet of any partition, right or not: whoever doesn't rest, and what came.
func TestQuiet(t *testing.T) {
	checkQuiet(t, api.Part{}, true)
	checkQuiet(t, api.Part{P: lowest, Step: greatest, Vals: vals(1, 2, 3)}, true)
	checkQuiet(t, api.Part{Rest: []bool{}, In: []api.Msg{}}, true)
	for _, in := range [][]api.Msg{msgs(to(0, 0)), msgs(to(-1, lowest)), msgs(to(0, 1), to(0, 1))} {
		checkQuiet(t, api.Part{In: in}, false)
		checkQuiet(t, partition(0, 1, vals(1, 2), "rr", in...), false)
		checkQuiet(t, partition(0, 1, vals(1, 2), "..", in...), false)
	}
	for n := 1; n <= 5; n++ {
		for who := range 1 << n {
			x := api.Part{P: n, Step: who, Vals: make([]int64, n)}
			for i := range n {
				x.Rest = append(x.Rest, who>>i&1 == 1)
			}
			checkQuiet(t, x, who == 1<<n-1)
		}
	}
}

// stepped brings a state a step further in partitions: parted, each done, each taking what all of them sent to it, in an order of chance; joined again. What is told beside it is in which call there was an error.
func stepped(t *testing.T, r *rand.Rand, g api.Graph, j api.Job, s api.State) (api.State, string, api.Errno) {
	t.Helper()
	l, err := part.Split(g, j, s)
	if err != api.OK {
		t.Fatalf("Split(%v, %v, %v): %d", g, j, s, err)
	}
	came := make([][][]api.Msg, len(l))
	for p, x := range l {
		y, outs, err := Do(g, j, x)
		if err != api.OK {
			return api.State{}, "Do", err
		}
		for to, out := range outs {
			came[to] = append(came[to], out)
			checkGoes(t, j, to, out)
		}
		l[p] = y
	}
	for p, x := range l {
		r.Shuffle(len(came[p]), func(a, b int) { came[p][a], came[p][b] = came[p][b], came[p][a] })
		y, err := Take(g, j, x, came[p])
		if err != api.OK {
			return api.State{}, "Take", err
		}
		l[p] = y
	}
	next, err := part.Join(g, j, l)
	if err != api.OK {
		t.Fatalf("Join(%v, %v, %v): %d", g, j, l, err)
	}
	return next, "", api.OK
}

// checkGoes: P8.5 of what Do tells under one number.
func checkGoes(t *testing.T, j api.Job, p int, out []api.Msg) {
	t.Helper()
	for _, m := range out {
		if part.Home(j, m.To) != p {
			t.Errorf("%v: under partition %d there is %v", j, p, out)
		}
	}
}

// checkQuietParts: P8.4 of one state.
func checkQuietParts(t *testing.T, g api.Graph, j api.Job, s api.State) {
	t.Helper()
	l, _ := part.Split(g, j, s)
	all := true
	for _, x := range l {
		all = Quiet(x) && all
	}
	if all != seq.Quiet(s) {
		t.Errorf("%v, %v, %v: all partitions quiet: %v; the state: %v", g, j, s, all, !all)
	}
}

// P8.3, P8.4, P8.5: states of any kind, held against seq.Step, also where a number is too great: in a Turn, a folding of what was sent, a folding of what came.
func TestAnyStates(t *testing.T) {
	r := rand.New(rand.NewPCG(8, 3))
	told := map[string]int{}
	for range 8000 {
		g := anyGraph(r)
		j := anyJob(r, g)
		number := eitherSign
		if j.Prog == api.Rank {
			number = []func(r *rand.Rand) int64{anyNumber, heavy}[r.IntN(2)]
		}
		s := anyState(r, g, number)
		checkQuietParts(t, g, j, s)
		want, err := seq.Step(g, j, s)
		got, where, e := stepped(t, r, g, j, s)
		if !sameState(got, want) || e != err {
			t.Errorf("%v, %v, %v in partitions: %v, %d; want %v, %d", g, j, s, got, e, want, err)
		}
		if e == api.OK {
			checkQuietParts(t, g, j, got)
		}
		if e == api.ErrOver {
			told[where]++
		}
	}
	if told["Do"] < 100 || told["Take"] < 50 {
		t.Errorf("too few were too great: %v", told)
	}
}

// P8.3: by hand: what is too great only where it comes together is told by Take, what is so ahead of it by Do.
func TestTooGreatTogether(t *testing.T) {
	r := rand.New(rand.NewPCG(8, 4))
	check := func(g api.Graph, j api.Job, s api.State, where string) {
		t.Helper()
		want, err := seq.Step(g, j, s)
		got, in, e := stepped(t, r, g, j, s)
		if !sameState(got, want) || e != err || in != where || (e == api.ErrOver) != (where != "") {
			t.Errorf("%v, %v, %v: %v, %s, %d; want %v, %s, %d", g, j, s, got, in, e, want, where, err)
		}
	}
	s := api.State{Vals: vals(1<<62, 0, 1<<62, 0), Rest: rests("....")}
	check(funnel(4, 1), job(api.Rank, 0, 1), s, "Do")
	check(funnel(4, 1), job(api.Rank, 0, 2), s, "Do")
	check(funnel(4, 1), job(api.Rank, 0, 3), s, "Take")
	check(funnel(4, 1), job(api.Rank, 0, 4), s, "Take")
	check(funnel(4, 1), job(api.Rank, 0, 6), s, "Take")
	s.Vals[3] = 1
	check(funnel(4, 1), job(api.Most, 0, 2), s, "")
	check(funnel(4, 1), job(api.Comp, 0, 6), s, "")
	s.Vals[0]--
	check(funnel(4, 1), job(api.Rank, 0, 6), s, "Take")
	s.Vals[3] = 0
	check(funnel(4, 1), job(api.Rank, 0, 6), s, "")
	check(funnel(4, api.MaxWeight), job(api.Sssp, 0, 2), api.State{Step: 1, Vals: vals(0, far, far, far), Rest: rests("rrrr"), In: msgs(to(2, 1<<62))}, "Do")
	check(funnel(4, api.MaxWeight), job(api.Sssp, 0, 2), api.State{Step: 1, Vals: vals(0, far, far, far), Rest: rests("rrrr"), In: msgs(to(2, 1<<62-1))}, "")
}

// P8.3: whole runs, from the beginning on, held against those on one machine.
func TestRuns(t *testing.T) {
	r := rand.New(rand.NewPCG(8, 5))
	kinds := map[int]int{}
	for range 400 {
		g := anyGraph(r)
		j := anyJob(r, g)
		s, _ := seq.Begin(g, j)
		answer := api.Answer{}
		for answer.Kind == api.Pending {
			checkQuietParts(t, g, j, s)
			answer = api.Answer{Step: s.Step, Vals: s.Vals}
			if seq.Quiet(s) {
				answer.Kind = api.Done
			} else if s.Step == j.Limit {
				answer.Kind = api.StepsOut
			} else if next, _, err := stepped(t, r, g, j, s); err != api.OK {
				answer.Kind, answer.Vals = api.TooGreat, nil
			} else if next.Step != s.Step+1 {
				t.Fatalf("%v, %v: behind %v comes %v", g, j, s, next)
			} else {
				s = next
			}
		}
		want := seq.Run(g, j)
		kinds[want.Kind]++
		if answer.Kind != want.Kind || answer.Step != want.Step || !slices.Equal(answer.Vals, want.Vals) {
			t.Errorf("%v, %v in partitions: %v; want %v", g, j, answer, want)
		}
	}
	for _, kind := range []int{api.Done, api.StepsOut, api.TooGreat} {
		if kinds[kind] == 0 {
			t.Errorf("no run came to %d: %v", kind, kinds)
		}
	}
}

// P8.4: by hand: one vertex that doesn't rest, or one message, wherever it lies.
func TestQuietByHand(t *testing.T) {
	for n := 1; n <= 8; n++ {
		for parts := 1; parts <= api.MaxParts; parts++ {
			g, j := api.Graph{N: n}, job(api.Comp, 0, parts)
			s := api.State{Vals: make([]int64, n), Rest: slices.Repeat([]bool{true}, n)}
			l, _ := part.Split(g, j, s)
			for _, x := range l {
				checkQuiet(t, x, true)
			}
			checkQuietParts(t, g, j, s)
			for v := range n {
				s.Rest[v] = false
				l, _ = part.Split(g, j, s)
				for p, x := range l {
					checkQuiet(t, x, p != v%parts)
				}
				checkQuietParts(t, g, j, s)
				s.Rest[v], s.In = true, msgs(to(v, 0))
				l, _ = part.Split(g, j, s)
				for p, x := range l {
					checkQuiet(t, x, p != v%parts)
				}
				checkQuietParts(t, g, j, s)
				s.In = nil
			}
		}
	}
}

// P8.5: an edge from each vertex to each other one, each program: all that is sent is told under the home it goes to, rising, one for a vertex.
func TestGoes(t *testing.T) {
	g := api.Graph{N: 8}
	for from := range g.N {
		for to := range g.N {
			g.Edges = append(g.Edges, api.Edge{From: from, To: to, W: 1})
		}
	}
	for _, p := range programs() {
		for parts := 1; parts <= api.MaxParts; parts++ {
			j := job(p, 0, parts)
			s, _ := seq.Begin(g, j)
			l, _ := part.Split(g, j, s)
			for home, x := range l {
				_, outs, err := Do(g, j, x)
				if err != api.OK || len(outs) != parts {
					t.Fatalf("Do(%v, %v, %v): %v, %d", g, j, x, outs, err)
				}
				for to, out := range outs {
					checkGoes(t, j, to, out)
					want := part.Count(g, j, to)
					if home != 0 && (p == api.Sssp || p == api.Level) {
						want = 0
					}
					if len(out) != want || !slices.IsSortedFunc(out, func(a, b api.Msg) int { return a.To - b.To }) {
						t.Errorf("Do(%v, %v): to %d goes %v", j, x, to, out)
					}
				}
			}
		}
	}
}

// roomy answers a list with spare room, and all of its memory.
func roomy[T any](l []T, fill T) (handed, all []T) {
	all = append(slices.Clone(l), slices.Repeat([]T{fill}, 9)...)
	return all[:len(l)], all
}

// roomyPart answers a partition whose lists have spare room, and all of its memory.
func roomyPart(x api.Part) (handed, all api.Part) {
	handed, all = x, x
	handed.Vals, all.Vals = roomy(x.Vals, 91)
	handed.Rest, all.Rest = roomy(x.Rest, true)
	handed.In, all.In = roomy(x.In, to(92, 93))
	return handed, all
}

// roomyLists answers lists with spare room, as has theirs, and all of their memory.
func roomyLists(ins [][]api.Msg) (handed, outer, inner [][]api.Msg) {
	var given [][]api.Msg
	for _, l := range ins {
		some, all := roomy(l, to(94, 95))
		given, inner = append(given, some), append(inner, all)
	}
	handed, outer = roomy(given, msgs(to(96, 97)))
	return handed, outer, inner
}

// spoil writes over a list, and over its spare room.
func spoil[T any](l []T, fill T) {
	l = l[:cap(l)]
	for i := range l {
		l[i] = fill
	}
}

// turn turns each bool of a list, and of its spare room, as either may have stood there.
func turn(l []bool) {
	l = l[:cap(l)]
	for i := range l {
		l[i] = !l[i]
	}
}

func spoilPart(x api.Part) {
	spoil(x.Vals, -77)
	turn(x.Rest)
	spoil(x.In, to(-7, -8))
}

func clonePart(x api.Part) api.Part {
	return api.Part{P: x.P, Step: x.Step, Vals: slices.Clone(x.Vals), Rest: slices.Clone(x.Rest), In: slices.Clone(x.In)}
}

func cloneLists(l [][]api.Msg) [][]api.Msg {
	var c [][]api.Msg
	for _, x := range l {
		c = append(c, slices.Clone(x))
	}
	return c
}

// R3: what is handed to Do is neither changed nor kept, and what it answers shares nothing with it, nor with another answer, nor a list with another one, spare room too.
func TestMemoryOfDo(t *testing.T) {
	r := rand.New(rand.NewPCG(8, 6))
	for range 2000 {
		g := anyGraph(r)
		j := anyJob(r, g)
		l, _ := part.Split(g, j, anyState(r, g, anyNumber))
		x := l[r.IntN(len(l))]
		edges, allEdges := roomy(g.Edges, api.Edge{From: 96})
		beforeEdges := slices.Clone(allEdges)
		handed, all := roomyPart(x)
		before := clonePart(all)
		room := api.Graph{N: g.N, Edges: edges}
		want, outs, err := wantedDo(g, j, x)
		first, firstOuts, _ := Do(room, j, handed)
		again, againOuts, _ := Do(room, j, handed)
		Quiet(handed)
		spoilPart(first)
		for p := range firstOuts {
			if !sameLists(firstOuts[p:], outs[p:]) {
				t.Errorf("Do(%v, %v, %v): lists share memory", g, j, x)
			}
			spoil(firstOuts[p], to(-5, -6))
		}
		spoil(firstOuts, msgs(to(-3, -4)))
		if !samePart(all, before) || !slices.Equal(allEdges, beforeEdges) {
			t.Errorf("Do(%v, %v, %v): what was handed in was changed", g, j, x)
		}
		spoilPart(all)
		spoil(allEdges, api.Edge{From: 97})
		if !samePart(again, want) || !sameLists(againOuts, outs) {
			t.Errorf("Do(%v, %v, %v): what was handed in was kept, or shared", g, j, x)
		}
		checkDo(t, g, j, x, want, outs, err)
	}
}

// R3: so of Take, of its lists too.
func TestMemoryOfTake(t *testing.T) {
	r := rand.New(rand.NewPCG(8, 7))
	for range 2000 {
		g := anyGraph(r)
		j := anyJob(r, g)
		x := anyPart(r, g, j)
		ins := anyLists(r, g.N, j.Parts, x.P, anyNumber)
		if r.IntN(3) == 0 {
			ins = ins[:min(1, len(ins))]
		}
		edges, allEdges := roomy(g.Edges, api.Edge{From: 96})
		beforeEdges := slices.Clone(allEdges)
		handed, all := roomyPart(x)
		before := clonePart(all)
		lists, outer, inner := roomyLists(ins)
		beforeOuter, beforeInner := cloneLists(outer), cloneLists(inner)
		room := api.Graph{N: g.N, Edges: edges}
		want := x
		in, err := wantedIn(j.Prog, g.N, ins)
		if want.In = in; err != api.OK {
			want = api.Part{}
		}
		first, _ := Take(room, j, handed, lists)
		again, _ := Take(room, j, handed, lists)
		spoilPart(first)
		if !samePart(all, before) || !slices.Equal(allEdges, beforeEdges) || !sameLists(outer, beforeOuter) || !sameLists(inner, beforeInner) {
			t.Errorf("Take(%v, %v, %v, %v): what was handed in was changed", g, j, x, ins)
		}
		spoilPart(all)
		for _, l := range inner {
			spoil(l, to(-1, -2))
		}
		spoil(outer, msgs(to(-3, -4)))
		spoil(allEdges, api.Edge{From: 97})
		if !samePart(again, want) {
			t.Errorf("Take(%v, %v, %v, %v): what was handed in was kept, or shared", g, j, x, ins)
		}
		checkTake(t, g, j, x, ins, want, err)
	}
}

// R3: also of what isn't right nothing is changed.
func TestMemoryOfWrong(t *testing.T) {
	for _, x := range append(wrongParts(), partition(0, 0, vals(1, 2, 3), "...")) {
		handed, all := roomyPart(x)
		before := clonePart(all)
		ins, outer, inner := roomyLists(lists(msgs(to(4, 2), to(0, 3)), nil, msgs(to(1, 9), to(0, 1))))
		beforeOuter, beforeInner := cloneLists(outer), cloneLists(inner)
		Do(forks(), job(api.Rank, 0, 2), handed)
		Take(forks(), job(api.Rank, 0, 2), handed, ins)
		Quiet(handed)
		if !samePart(all, before) || !sameLists(outer, beforeOuter) || !sameLists(inner, beforeInner) {
			t.Errorf("%v, %v: what was handed in was changed", x, ins)
		}
	}
}

// R3: a nil list and an empty one are the same.
func TestNilAndEmpty(t *testing.T) {
	for _, in := range [][]api.Msg{nil, {}, make([]api.Msg, 0, 4)} {
		for _, edges := range [][]api.Edge{nil, {}, make([]api.Edge, 0, 4)} {
			g, j := api.Graph{N: 1, Edges: edges}, job(api.Most, 0, 2)
			checkDo(t, g, j, partition(0, 0, vals(7), ".", in...), partition(0, 1, vals(7), "r"), lists(nil, nil), api.OK)
			checkTakes(t, g, j, partition(0, 0, vals(7), ".", in...), lists(in, nil, in))
			for _, none := range [][]int64{nil, {}, make([]int64, 0, 4)} {
				for _, rest := range [][]bool{nil, {}, make([]bool, 0, 4)} {
					x := api.Part{P: 1, Vals: none, Rest: rest, In: in}
					checkDo(t, g, j, x, api.Part{P: 1, Step: 1}, lists(nil, nil), api.OK)
					checkTakes(t, g, j, x, lists(in))
					checkQuiet(t, x, true)
				}
			}
		}
	}
	for _, ins := range [][][]api.Msg{nil, {}, make([][]api.Msg, 0, 4)} {
		checkTakes(t, pair(), job(api.Rank, 0, 1), partition(0, 5, vals(1, 2), ".r"), ins)
		checkNotTaken(t, pair(), job(api.Rank, 0, 1), api.Part{}, ins, api.ErrArg)
	}
}

// R1, R2: any numbers in any fields: nothing panics, with an error nothing else is told, and what is right is told as its promise says.
func TestAnyArguments(t *testing.T) {
	r := rand.New(rand.NewPCG(8, 8))
	pick := func(n int) int {
		l := []int{lowest, -1, 0, 1, 2, 5, n - 1, n, n + 1, api.MaxParts, api.MaxSteps, api.MaxSteps + 1, 1 << 32, greatest}
		return l[r.IntN(len(l))]
	}
	done, taken := map[api.Errno]int{}, map[api.Errno]int{}
	for range 30000 {
		g := anyGraph(r)
		n := g.N
		j := anyJob(r, g)
		l, _ := part.Split(g, j, anyState(r, g, eitherSign))
		x := l[r.IntN(len(l))]
		ins := anyLists(r, n, j.Parts, x.P, eitherSign)
		if r.IntN(2) == 0 {
			x.In = nil
		}
		if r.IntN(8) == 0 {
			g.N = pick(n)
		}
		if len(g.Edges) > 0 && r.IntN(8) == 0 {
			g.Edges[r.IntN(len(g.Edges))] = api.Edge{From: pick(n), To: pick(n), W: int64(pick(n))}
		}
		if r.IntN(8) == 0 {
			j = api.Job{Prog: pick(n), Source: pick(n), Limit: pick(n), Parts: pick(n)}
		}
		switch r.IntN(10) {
		case 0:
			x.Step = pick(n)
		case 1:
			x.Vals = append(x.Vals, 1)
		case 2:
			x.Rest = append(x.Rest, false)
		case 3:
			x.P = pick(n)
		case 4:
			x.In = append(x.In, to(pick(n), int64(pick(n))))
		case 5:
			ins = append(ins, msgs(to(pick(n), int64(pick(n)))))
		}
		Quiet(x)
		err := prog.Check(g, j)
		if err == api.OK && !part.Right(g, j, x) {
			err = api.ErrArg
		}
		wantDone, outs, e := api.Part{}, [][]api.Msg(nil), err
		if err == api.OK {
			wantDone, outs, e = wantedDo(g, j, x)
		}
		checkDo(t, g, j, x, wantDone, outs, e)
		done[e]++
		wantTaken, e := wantedTake(g, j, x, ins, err)
		checkTake(t, g, j, x, ins, wantTaken, e)
		taken[e]++
	}
	for _, e := range []api.Errno{api.OK, api.ErrArg, api.ErrNone, api.ErrState, api.ErrOver} {
		if done[e] == 0 || taken[e] == 0 {
			t.Errorf("nothing was answered by %d: %v, %v", e, done, taken)
		}
	}
}

// wantedTake is what the document says of Take; err: what there is to tell of the graph, the job and the partition.
func wantedTake(g api.Graph, j api.Job, x api.Part, ins [][]api.Msg, err api.Errno) (api.Part, api.Errno) {
	if err != api.OK {
		return api.Part{}, err
	}
	if len(x.In) > 0 {
		return api.Part{}, api.ErrArg
	}
	for _, m := range slices.Concat(ins...) {
		if m.To < 0 || m.To >= g.N || m.To%j.Parts != x.P {
			return api.Part{}, api.ErrArg
		}
	}
	if x.In, err = wantedIn(j.Prog, g.N, ins); err != api.OK {
		return api.Part{}, err
	}
	return x, api.OK
}
