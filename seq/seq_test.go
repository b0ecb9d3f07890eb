package seq

import (
	"maps"
	"math/big"
	"math/rand/v2"
	"slices"
	"testing"

	"haywain/api"
	"haywain/prog"
)

const (
	greatest = 1<<63 - 1
	lowest   = -1 << 63
	far      = api.Far
)

func msgs(l ...api.Msg) []api.Msg {
	return l
}

func vals(l ...int64) []int64 {
	return l
}

// rests answers the Rest of a text: r rests, any other byte doesn't.
func rests(s string) []bool {
	var l []bool
	for i := range len(s) {
		l = append(l, s[i] == 'r')
	}
	return l
}

func state(step int, v []int64, rest string, in ...api.Msg) api.State {
	return api.State{Step: step, Vals: v, Rest: rests(rest), In: in}
}

func job(p, source, limit int) api.Job {
	return api.Job{Prog: p, Source: source, Limit: limit, Parts: 1}
}

func programs() []int {
	return []int{api.Sssp, api.Comp, api.Level, api.Most, api.Rank}
}

func sameState(a, b api.State) bool {
	return a.Step == b.Step && slices.Equal(a.Vals, b.Vals) && slices.Equal(a.Rest, b.Rest) && slices.Equal(a.In, b.In)
}

func sameAnswer(a, b api.Answer) bool {
	return a.Kind == b.Kind && a.Step == b.Step && slices.Equal(a.Vals, b.Vals)
}

func checkRight(t *testing.T, g api.Graph, j api.Job, s api.State, want bool) {
	t.Helper()
	if Right(g, j, s) != want {
		t.Errorf("Right(%v, %v, %v): %v; want %v", g, j, s, !want, want)
	}
}

func checkQuiet(t *testing.T, s api.State, want bool) {
	t.Helper()
	if Quiet(s) != want {
		t.Errorf("Quiet(%v): %v; want %v", s, !want, want)
	}
}

func checkBegin(t *testing.T, g api.Graph, j api.Job, want api.State, err api.Errno) {
	t.Helper()
	if got, e := Begin(g, j); !sameState(got, want) || e != err {
		t.Errorf("Begin(%v, %v): %v, %d; want %v, %d", g, j, got, e, want, err)
	}
}

func checkStep(t *testing.T, g api.Graph, j api.Job, s, want api.State, err api.Errno) {
	t.Helper()
	if got, e := Step(g, j, s); !sameState(got, want) || e != err {
		t.Errorf("Step(%v, %v, %v): %v, %d; want %v, %d", g, j, s, got, e, want, err)
	}
}

func checkRun(t *testing.T, g api.Graph, j api.Job, want api.Answer) {
	t.Helper()
	if got := Run(g, j); !sameAnswer(got, want) {
		t.Errorf("Run(%v, %v): %v; want %v", g, j, got, want)
	}
}

func checkAt(t *testing.T, g api.Graph, j api.Job, n int, want api.State, err api.Errno) {
	t.Helper()
	if got, e := At(g, j, n); !sameState(got, want) || e != err {
		t.Errorf("At(%v, %v, %d): %v, %d; want %v, %d", g, j, n, got, e, want, err)
	}
}

func pair() api.Graph {
	return api.Graph{N: 2, Edges: []api.Edge{{From: 0, To: 1, W: 7}, {From: 1, To: 0, W: 5}}}
}

// great answers a graph over which Sssp from 0 becomes too great at step 1.
func great() api.Graph {
	return api.Graph{N: 3, Edges: []api.Edge{{From: 0, To: 1, W: api.MaxWeight}, {From: 1, To: 2, W: api.MaxWeight}}}
}

// forks answers a graph with two ways to a vertex, an edge from a vertex to itself, a vertex to which none leads, and one from which none leads.
func forks() api.Graph {
	return api.Graph{N: 5, Edges: []api.Edge{
		{From: 0, To: 1, W: 9}, {From: 0, To: 2, W: 2},
		{From: 1, To: 3, W: 1},
		{From: 2, To: 1, W: 3}, {From: 2, To: 2, W: 0},
		{From: 4, To: 0, W: 6}, {From: 4, To: 3, W: 8},
	}}
}

// row answers the graph of n vertices with an edge of weight w from each one to the next.
func row(n int, w int64) api.Graph {
	g := api.Graph{N: n}
	for v := range n - 1 {
		g.Edges = append(g.Edges, api.Edge{From: v, To: v + 1, W: w})
	}
	return g
}

// around answers a row whose last vertex leads to the first one.
func around(n int, w int64) api.Graph {
	g := row(n, w)
	g.Edges = append(g.Edges, api.Edge{From: n - 1, To: 0, W: w})
	return g
}

// whole answers a graph of MaxVerts vertices and MaxEdges edges.
func whole() api.Graph {
	g := api.Graph{N: api.MaxVerts}
	for i := range api.MaxEdges {
		place := i * api.MaxVerts * api.MaxVerts / api.MaxEdges
		g.Edges = append(g.Edges, api.Edge{From: place / api.MaxVerts, To: place % api.MaxVerts, W: int64(i * 37 % 101)})
	}
	return g
}

func graphs() []api.Graph {
	return []api.Graph{
		{N: 1}, {N: 2}, {N: api.MaxVerts},
		{N: 1, Edges: []api.Edge{{W: 4}}},
		{N: 3, Edges: []api.Edge{{From: 1, To: 1, W: 0}, {From: 1, To: 2, W: 3}}},
		pair(), great(), forks(), row(6, 2), around(6, 2), row(api.MaxVerts, 1), around(api.MaxVerts, api.MaxWeight/40), row(3, api.MaxWeight), whole(),
	}
}

// wrong is a graph and a job that don't go together, and what prog.Check has of them.
type wrong struct {
	g   api.Graph
	j   api.Job
	err api.Errno
}

// wrongs answers graphs that aren't right, with jobs that would be and that wouldn't, and jobs that aren't right for their graph.
func wrongs() []wrong {
	full := api.Graph{N: api.MaxVerts}
	for i := range api.MaxEdges + 1 {
		full.Edges = append(full.Edges, api.Edge{From: i / api.MaxVerts, To: i % api.MaxVerts})
	}
	var l []wrong
	for _, j := range []api.Job{job(api.Sssp, 0, 9), job(api.Rank, 1, 0), {}, {Prog: lowest, Source: greatest, Limit: -1, Parts: 7}} {
		l = append(l,
			wrong{api.Graph{}, j, api.ErrArg},
			wrong{api.Graph{N: -1}, j, api.ErrArg},
			wrong{api.Graph{N: lowest}, j, api.ErrArg},
			wrong{api.Graph{N: greatest}, j, api.ErrArg},
			wrong{api.Graph{N: api.MaxVerts + 1}, j, api.ErrArg},
			wrong{full, j, api.ErrFull},
			wrong{api.Graph{N: 2, Edges: []api.Edge{{From: 0, To: 2}}}, j, api.ErrNone},
			wrong{api.Graph{N: 2, Edges: []api.Edge{{From: -1, To: 0}}}, j, api.ErrNone},
			wrong{api.Graph{N: 2, Edges: []api.Edge{{W: -1}}}, j, api.ErrArg},
			wrong{api.Graph{N: 2, Edges: []api.Edge{{W: api.MaxWeight + 1}}}, j, api.ErrArg},
			wrong{api.Graph{N: 2, Edges: []api.Edge{{W: 1}, {W: 2}}}, j, api.ErrTwice},
			wrong{api.Graph{N: 2, Edges: []api.Edge{{From: 1}, {To: 1}}}, j, api.ErrState},
		)
	}
	for _, p := range []int{lowest, -1, 0, 6, greatest} {
		l = append(l, wrong{pair(), api.Job{Prog: p, Limit: 9, Parts: 1}, api.ErrArg})
	}
	for _, p := range programs() {
		for _, source := range []int{lowest, -1, 2, greatest} {
			l = append(l, wrong{pair(), api.Job{Prog: p, Source: source, Limit: 9, Parts: 1}, api.ErrArg})
		}
		for _, limit := range []int{lowest, -1, api.MaxSteps + 1, greatest} {
			l = append(l, wrong{pair(), api.Job{Prog: p, Limit: limit, Parts: 1}, api.ErrArg})
		}
		for _, parts := range []int{lowest, -1, 0, api.MaxParts + 1, greatest} {
			l = append(l, wrong{pair(), api.Job{Prog: p, Limit: 9, Parts: parts}, api.ErrArg})
		}
	}
	return l
}

// anyGraph answers a graph that is right; with heavy, many ways become too great.
func anyGraph(r *rand.Rand, heavy bool) api.Graph {
	n := 1 + r.IntN(api.MaxVerts)
	if r.IntN(2) == 0 {
		n = 1 + r.IntN(5)
	}
	places := r.Perm(n * n)
	places = places[:r.IntN(1+min(len(places), api.MaxEdges))]
	slices.Sort(places)
	g := api.Graph{N: n}
	for _, p := range places {
		weights := []int64{0, 1, 7, int64(r.IntN(100)), r.Int64N(1 << 50)}
		if heavy {
			weights = append(weights, api.MaxWeight-1, api.MaxWeight, r.Int64N(api.MaxWeight))
		}
		g.Edges = append(g.Edges, api.Edge{From: p / n, To: p % n, W: weights[r.IntN(len(weights))]})
	}
	return g
}

func anyJob(r *rand.Rand, g api.Graph) api.Job {
	limits := []int{0, 1, 2, 3, r.IntN(api.MaxSteps + 1), api.MaxSteps, api.MaxSteps}
	return api.Job{Prog: 1 + r.IntN(5), Source: r.IntN(g.N), Limit: limits[r.IntN(len(limits))], Parts: 1 + r.IntN(api.MaxParts)}
}

// anyState answers a state that is right, with numbers of any size.
func anyState(r *rand.Rand, g api.Graph) api.State {
	some := func() int64 {
		l := []int64{0, 1, int64(r.IntN(1000)), prog.Unit, r.Int64N(1 << 50), far, far, far - 1, -5, r.Int64N(greatest), lowest}
		return l[r.IntN(len(l))]
	}
	steps := []int{0, 0, 1, prog.Rounds - 1, prog.Rounds, api.MaxSteps - 1, r.IntN(api.MaxSteps)}
	s := api.State{Step: steps[r.IntN(len(steps))]}
	resting, coming := r.IntN(5), r.IntN(4)
	for v := range g.N {
		s.Vals = append(s.Vals, some())
		s.Rest = append(s.Rest, r.IntN(4) < resting)
		if r.IntN(4) < coming {
			s.In = append(s.In, api.Msg{To: v, V: some()})
		}
	}
	return s
}

// firstVals is what the document says of the values at the beginning.
func firstVals(n int, j api.Job) []int64 {
	l := make([]int64, n)
	for v := range l {
		switch x := int64(v); j.Prog {
		case 1, 3:
			l[v] = far
		case 2:
			l[v] = x
		case 4:
			l[v] = (31*x*x + 7) % 1009
		case 5:
			l[v] = 1000000
		}
	}
	if j.Prog == 1 || j.Prog == 3 {
		l[j.Source] = 0
	}
	return l
}

// wantedStep is what the document says of Step, by other means: the messages to each vertex by themselves, sums of any size.
func wantedStep(g api.Graph, j api.Job, s api.State) (api.State, api.Errno) {
	next := api.State{Step: s.Step + 1}
	sent := map[int][]int64{}
	for v := range g.N {
		got, some := int64(0), false
		for _, m := range s.In {
			if m.To == v {
				got, some = m.V, true
			}
		}
		val, out, rest := s.Vals[v], []api.Msg(nil), true
		if some || !s.Rest[v] {
			var err api.Errno
			if val, out, rest, err = prog.Turn(g, j, s.Step, v, s.Vals[v], got, some); err != api.OK {
				return api.State{}, err
			}
		}
		next.Vals, next.Rest = append(next.Vals, val), append(next.Rest, rest)
		for _, m := range out {
			sent[m.To] = append(sent[m.To], m.V)
		}
	}
	for _, v := range slices.Sorted(maps.Keys(sent)) {
		val, ok := wantedFold(j.Prog, sent[v])
		if !ok {
			return api.State{}, api.ErrOver
		}
		next.In = append(next.In, api.Msg{To: v, V: val})
	}
	return next, api.OK
}

// wantedFold answers what numbers are folded into; false: a sum is too great, the least ones being summed first.
func wantedFold(p int, l []int64) (int64, bool) {
	if p < 4 {
		return slices.Min(l), true
	}
	if p == 4 {
		return slices.Max(l), true
	}
	sum := new(big.Int)
	for _, x := range slices.Sorted(slices.Values(l)) {
		if sum.Add(sum, big.NewInt(x)); !sum.IsInt64() {
			return 0, false
		}
	}
	return sum.Int64(), true
}

// along answers what goes along an edge from a vertex of that value; false: it is too great.
func along(g api.Graph, p int, val int64, e api.Edge) (int64, bool) {
	sum := big.NewInt(val)
	switch p {
	case 1:
		sum.Add(sum, big.NewInt(e.W))
	case 3:
		sum.Add(sum, big.NewInt(1))
	case 5:
		n := int64(0)
		for _, other := range g.Edges {
			if other.From == e.From {
				n++
			}
		}
		sum.Quo(sum, big.NewInt(n))
	}
	return sum.Int64(), sum.IsInt64()
}

// best answers the values behind superstep k: of all edges, whoever has sent, the best way of one edge more; of Rank the shares along all edges.
func best(g api.Graph, p, k int, before []int64) []int64 {
	now := slices.Clone(before)
	if k == 0 {
		return now
	}
	if p == 5 {
		clear(now)
	}
	for _, e := range g.Edges {
		val, ok := along(g, p, before[e.From], e)
		switch {
		case !ok: // from a vertex that nothing has reached
		case p == 5:
			now[e.To] += val
		case p == 4:
			now[e.To] = max(now[e.To], val)
		default:
			now[e.To] = min(now[e.To], val)
		}
	}
	if p == 5 {
		for v := range now {
			now[v] = 150000 + now[v]*85/100
		}
	}
	return now
}

// sends: does a vertex tell others in superstep k?
func sends(j api.Job, k, v int, before, now int64) bool {
	switch {
	case j.Prog == 5:
		return k < 10
	case k > 0:
		return before != now
	}
	return j.Prog == 2 || j.Prog == 4 || v == j.Source
}

// wantedRun is what the document says of a whole run, by other means: its states, from 0 on, and its kind.
func wantedRun(g api.Graph, j api.Job) ([]api.State, int) {
	l := []api.State{{Vals: firstVals(g.N, j), Rest: make([]bool, g.N)}}
	for k := 0; ; k++ {
		resting := k > 0 && j.Prog != 5 || k > 10
		switch {
		case resting && len(l[k].In) == 0:
			return l, api.Done
		case k == j.Limit:
			return l, api.StepsOut
		}
		next := api.State{Step: k + 1, Vals: best(g, j.Prog, k, l[k].Vals), Rest: slices.Repeat([]bool{j.Prog != 5 || k >= 10}, g.N)}
		sent := map[int][]int64{}
		for _, e := range g.Edges {
			if !sends(j, k, e.From, l[k].Vals[e.From], next.Vals[e.From]) {
				continue
			}
			val, ok := along(g, j.Prog, next.Vals[e.From], e)
			if !ok {
				return l, api.TooGreat
			}
			sent[e.To] = append(sent[e.To], val)
		}
		for _, v := range slices.Sorted(maps.Keys(sent)) {
			val, _ := wantedFold(j.Prog, sent[v])
			next.In = append(next.In, api.Msg{To: v, V: val})
		}
		l = append(l, next)
	}
}

// The chapter's examples, and the document's of one machine.
func TestExamples(t *testing.T) {
	g, j := pair(), job(api.Sssp, 0, 9)
	checkAt(t, g, j, 0, state(0, vals(0, far), ".."), api.OK)
	checkAt(t, g, j, 1, state(1, vals(0, far), "rr", api.Msg{To: 1, V: 7}), api.OK)
	checkAt(t, g, j, 2, state(2, vals(0, 7), "rr", api.Msg{To: 0, V: 12}), api.OK)
	checkAt(t, g, j, 3, state(3, vals(0, 7), "rr"), api.OK)
	checkAt(t, g, j, 4, api.State{}, api.ErrNone)
	checkRun(t, g, j, api.Answer{Kind: api.Done, Step: 3, Vals: vals(0, 7)})
	checkRun(t, g, job(api.Sssp, 0, 2), api.Answer{Kind: api.StepsOut, Step: 2, Vals: vals(0, 7)})
	checkRun(t, g, job(api.Rank, 0, 40), api.Answer{Kind: api.Done, Step: 11, Vals: vals(1000000, 1000000)})
	checkRun(t, great(), job(api.Sssp, 0, 9), api.Answer{Kind: api.TooGreat, Step: 1})
}

// sized answers a state with so many Vals, Rest, and with that In.
func sized(step, nVals, nRest int, in []api.Msg) api.State {
	return api.State{Step: step, Vals: make([]int64, nVals), Rest: make([]bool, nRest), In: in}
}

// P6.1: Step, Vals and Rest at their ends and beyond them; Limit doesn't count.
func TestRight(t *testing.T) {
	for _, n := range []int{1, 2, 5, api.MaxVerts} {
		g := api.Graph{N: n}
		for _, p := range programs() {
			for _, limit := range []int{0, 9, api.MaxSteps} {
				j := api.Job{Prog: p, Source: n - 1, Limit: limit, Parts: api.MaxParts}
				for step, want := range map[int]bool{lowest: false, -1: false, 0: true, 1: true, 10: true, api.MaxSteps - 1: true, api.MaxSteps: true, api.MaxSteps + 1: false, 1 << 32: false, greatest: false} {
					checkRight(t, g, j, sized(step, n, n, nil), want)
					checkRight(t, g, j, sized(step, n, n, msgs(api.Msg{To: n - 1, V: 4})), want)
				}
				for _, nVals := range []int{0, n - 1, n, n + 1, 2 * n} {
					for _, nRest := range []int{0, n - 1, n, n + 1, 2 * n} {
						checkRight(t, g, j, sized(3, nVals, nRest, nil), nVals == n && nRest == n)
					}
				}
			}
		}
	}
	checkRight(t, pair(), job(1, 0, 9), api.State{}, false)
	checkRight(t, pair(), job(1, 0, 9), state(0, vals(lowest, greatest), "r."), true)
}

// P6.1: what came: none, one, several; to vertices alone, and rising.
func TestRightIn(t *testing.T) {
	for _, n := range []int{1, 2, 5, api.MaxVerts} {
		g, j := api.Graph{N: n}, job(api.Most, 0, 9)
		check := func(want bool, to ...int) {
			t.Helper()
			in := make([]api.Msg, 0, 9)
			for i, v := range to {
				in = append(in, api.Msg{To: v, V: int64(5 - i)})
			}
			checkRight(t, g, j, sized(1, n, n, in), want)
		}
		check(true)
		check(true, 0)
		check(true, n-1)
		for _, v := range []int{lowest, -n, -1, n, n + 1, 1 << 32, greatest} {
			check(false, v)
			check(false, 0, v)
			check(false, v, n-1)
		}
		check(false, 0, 0)
		check(false, n-1, n-1)
		check(n > 1, 0, n-1)
		check(false, n-1, 0)
		check(n >= 5, 0, 1, 2, 3, 4)
		check(n >= 5, 0, 2, 4)
		check(false, 0, 2, 2, 4)
		check(false, 0, 2, 1, 4)
		check(false, 4, 3, 2)
	}
}

// P6.1: all lists of up to four messages to vertices and to such as are none, against the document's words.
func TestRightOfAllIn(t *testing.T) {
	g, j := api.Graph{N: 3}, job(api.Comp, 2, 9)
	longest := [][]api.Msg{nil}
	right := 0
	for range 5 {
		var longer [][]api.Msg
		for _, l := range longest {
			want := true
			for i, m := range l {
				want = want && m.To >= 0 && m.To < 3 && (i == 0 || m.To > l[i-1].To)
			}
			checkRight(t, g, j, sized(0, 3, 3, l), want)
			if want {
				right++
			}
			for to := -1; to <= 3; to++ {
				longer = append(longer, append(slices.Clone(l), api.Msg{To: to, V: int64(-to)}))
			}
		}
		longest = longer
	}
	if right != 8 {
		t.Errorf("%d lists are right", right)
	}
}

// P6.1: no state is right for a graph and a job that aren't.
func TestRightOfWrongs(t *testing.T) {
	for _, w := range wrongs() {
		for _, n := range []int{0, 1, 2, api.MaxVerts, api.MaxVerts + 1} {
			checkRight(t, w.g, w.j, sized(0, n, n, nil), false)
			checkRight(t, w.g, w.j, sized(api.MaxSteps, n, n, msgs(api.Msg{})), false)
		}
	}
}

// P6.1: of any state, right or not.
func TestQuiet(t *testing.T) {
	in := msgs(api.Msg{To: 0, V: 1})
	checkQuiet(t, api.State{}, true)
	checkQuiet(t, api.State{Rest: []bool{}, In: []api.Msg{}}, true)
	checkQuiet(t, api.State{Rest: make([]bool, 0, 3), In: make([]api.Msg, 0, 3)}, true)
	checkQuiet(t, api.State{In: in}, false)
	checkQuiet(t, api.State{In: msgs(api.Msg{})}, false)
	checkQuiet(t, api.State{In: msgs(api.Msg{To: -1}, api.Msg{To: -1})}, false)
	for _, n := range []int{1, 2, 5, api.MaxVerts, 100} {
		for _, step := range []int{lowest, -1, 0, 1, api.MaxSteps, greatest} {
			s := api.State{Step: step, Rest: slices.Repeat([]bool{true}, n)}
			checkQuiet(t, s, true)
			s.Vals = make([]int64, n)
			checkQuiet(t, s, true)
			for v := range n {
				s.Rest[v] = false
				checkQuiet(t, s, false)
				s.Rest[v] = true
			}
			s.In = in
			checkQuiet(t, s, false)
			s.Rest[0] = false
			checkQuiet(t, s, false)
			checkQuiet(t, sized(step, n, n, nil), false)
			checkQuiet(t, sized(step, n, 0, nil), true)
		}
	}
}

// P6.1: the first state of each program.
func TestBegin(t *testing.T) {
	checkBegin(t, pair(), job(api.Sssp, 1, 0), state(0, vals(far, 0), ".."), api.OK)
	checkBegin(t, pair(), job(api.Comp, 1, 0), state(0, vals(0, 1), ".."), api.OK)
	checkBegin(t, forks(), job(api.Level, 2, 40), state(0, vals(far, far, 0, far, far), "....."), api.OK)
	checkBegin(t, forks(), job(api.Most, 2, 40), state(0, vals(7, 38, 131, 286, 503), "....."), api.OK)
	checkBegin(t, api.Graph{N: 1}, job(api.Rank, 0, 0), state(0, vals(1000000), "."), api.OK)
	for _, g := range graphs() {
		for _, p := range programs() {
			for source := range g.N {
				j := job(p, source, source)
				checkBegin(t, g, j, api.State{Vals: firstVals(g.N, j), Rest: make([]bool, g.N)}, api.OK)
				s, _ := Begin(g, j)
				checkRight(t, g, j, s, true)
				checkQuiet(t, s, false)
			}
		}
	}
}

// P6.1 to P6.4: graphs and jobs that aren't right: prog.Check's error, ahead of whatever else is wrong; Run tells nothing but Rejected.
func TestWrongs(t *testing.T) {
	for _, w := range wrongs() {
		if e := prog.Check(w.g, w.j); e != w.err {
			t.Errorf("Check(%v, %v): %d; want %d", w.g, w.j, e, w.err)
		}
		checkBegin(t, w.g, w.j, api.State{}, w.err)
		checkRun(t, w.g, w.j, api.Answer{Kind: api.Rejected})
		for _, n := range []int{lowest, -1, 0, 1, api.MaxSteps, greatest} {
			checkAt(t, w.g, w.j, n, api.State{}, w.err)
		}
		for _, step := range []int{-1, 0, api.MaxSteps, api.MaxSteps + 1} {
			for _, n := range []int{0, 2, 3, api.MaxVerts} {
				s := api.State{Step: step, Vals: slices.Repeat(vals(far), n), Rest: make([]bool, n), In: msgs(api.Msg{To: 1, V: far - 1})}
				checkStep(t, w.g, w.j, s, api.State{}, w.err)
			}
		}
	}
}

// P6.2: states that aren't right, in one way and in several, ahead of a Step that is MaxSteps, and of a number that is too great.
func TestStepOfWrongStates(t *testing.T) {
	big := msgs(api.Msg{To: 0, V: far - 1}, api.Msg{To: 1, V: far - 1})
	for _, p := range programs() {
		for _, step := range []int{lowest, -1, 0, 1, api.MaxSteps - 1, api.MaxSteps, api.MaxSteps + 1, greatest} {
			for _, nVals := range []int{0, 1, 2, 3} {
				for _, nRest := range []int{0, 1, 2, 3} {
					for _, in := range [][]api.Msg{nil, big, {{To: -1}}, {{To: 2}}, {{To: 1}, {To: 1}}, {{To: 1}, {To: 0}}, {{To: 0}, {To: greatest}}, {{To: lowest}}} {
						s := api.State{Step: step, Vals: slices.Repeat(vals(far), nVals), Rest: make([]bool, nRest), In: in}
						if !Right(pair(), job(p, 0, 9), s) {
							checkStep(t, pair(), job(p, 0, 9), s, api.State{}, api.ErrArg)
						}
					}
				}
			}
		}
	}
}

// P6.2: at MaxSteps there is no more: told ahead of a number that is too great; one step ahead of it there is, whatever the Limit.
func TestStepAtMaxSteps(t *testing.T) {
	g := pair()
	for _, limit := range []int{0, 9, api.MaxSteps} {
		for _, p := range programs() {
			for _, in := range [][]api.Msg{nil, {{To: 0, V: 3}}, {{To: 1, V: far - 1}}, {{To: 0, V: lowest}, {To: 1, V: greatest}}} {
				for _, rest := range []string{"..", "r.", "rr"} {
					checkStep(t, g, job(p, 0, limit), state(api.MaxSteps, vals(far, far), rest, in...), api.State{}, api.ErrState)
				}
			}
			checkStep(t, g, job(p, 0, limit), state(api.MaxSteps-1, vals(5, 6), "rr"), state(api.MaxSteps, vals(5, 6), "rr"), api.OK)
		}
		j := job(api.Sssp, 0, limit)
		checkStep(t, g, j, state(api.MaxSteps-1, vals(0, far), "rr", api.Msg{To: 1, V: 7}), state(api.MaxSteps, vals(0, 7), "rr", api.Msg{To: 0, V: 12}), api.OK)
		checkStep(t, g, j, state(api.MaxSteps-1, vals(0, far), "rr", api.Msg{To: 1, V: far - 1}), api.State{}, api.ErrOver)
	}
}

// P6.2: who does something: one that rests and to which something came, one that doesn't rest, but not one that rests and to which nothing came.
func TestStepWhoTurns(t *testing.T) {
	g := forks()
	sssp := job(api.Sssp, 0, 9)
	v := vals(0, 20, 30, 40, 50)
	// Only Source begins; where it rests, nobody does.
	checkStep(t, g, sssp, state(0, v, "....."), state(1, v, "rrrrr", api.Msg{To: 1, V: 9}, api.Msg{To: 2, V: 2}), api.OK)
	checkStep(t, g, sssp, state(0, v, ".rrrr"), state(1, v, "rrrrr", api.Msg{To: 1, V: 9}, api.Msg{To: 2, V: 2}), api.OK)
	checkStep(t, g, sssp, state(0, v, "r...."), state(1, v, "rrrrr"), api.OK)
	// What came to Source wakes it, though it is no better.
	checkStep(t, g, sssp, state(0, v, "rrrrr", api.Msg{To: 0, V: 1}), state(1, v, "rrrrr", api.Msg{To: 1, V: 9}, api.Msg{To: 2, V: 2}), api.OK)
	// Two ways to 1 and two to 3: the less one is what came.
	checkStep(t, g, sssp, state(1, v, "rrrrr", api.Msg{To: 0, V: -1}, api.Msg{To: 2, V: 2}, api.Msg{To: 3, V: 41}), state(2, vals(-1, 20, 2, 40, 50), "rrrrr", api.Msg{To: 1, V: 5}, api.Msg{To: 2, V: 1}), api.OK)
	checkStep(t, g, sssp, state(1, v, "rrrrr", api.Msg{To: 1, V: 9}, api.Msg{To: 4, V: 1}), state(2, vals(0, 9, 30, 40, 1), "rrrrr", api.Msg{To: 0, V: 7}, api.Msg{To: 3, V: 9}), api.OK)
	// Behind step 0 none of these does a thing unless something came, but they rest then.
	checkStep(t, g, sssp, state(1, v, "....."), state(2, v, "rrrrr"), api.OK)
	// Of Comp and Most all begin that don't rest.
	checkStep(t, g, job(api.Comp, 0, 9), state(0, v, "r.rr."), state(1, v, "rrrrr", api.Msg{To: 0, V: 50}, api.Msg{To: 3, V: 20}), api.OK)
	checkStep(t, g, job(api.Most, 0, 9), state(0, v, "r.rr."), state(1, v, "rrrrr", api.Msg{To: 0, V: 50}, api.Msg{To: 3, V: 50}), api.OK)
	checkStep(t, g, job(api.Level, 4, 9), state(0, v, "....."), state(1, v, "rrrrr", api.Msg{To: 0, V: 51}, api.Msg{To: 3, V: 51}), api.OK)
}

// P6.2: of Rank one that rests and to which nothing came keeps its value, all others have another one; sums are folded.
func TestStepOfRank(t *testing.T) {
	g := api.Graph{N: 3, Edges: []api.Edge{{From: 0, To: 2}, {From: 1, To: 2}, {From: 2, To: 0}}}
	j := job(api.Rank, 0, 40)
	v := vals(1000000, 1000000, 1000000)
	first := state(1, v, "...", api.Msg{To: 0, V: 1000000}, api.Msg{To: 2, V: 2000000})
	checkStep(t, g, j, state(0, v, "..."), first, api.OK)
	checkStep(t, g, j, first, state(2, vals(1000000, 150000, 1850000), "...", api.Msg{To: 0, V: 1850000}, api.Msg{To: 2, V: 1150000}), api.OK)
	checkStep(t, g, j, state(1, v, "rrr", api.Msg{To: 2, V: 2000000}), state(2, vals(1000000, 1000000, 1850000), "rr.", api.Msg{To: 0, V: 1850000}), api.OK)
	checkStep(t, g, j, state(1, v, "r.r"), state(2, vals(1000000, 150000, 1000000), "r.r", api.Msg{To: 2, V: 150000}), api.OK)
	checkStep(t, g, j, state(9, v, "..."), state(10, vals(150000, 150000, 150000), "...", api.Msg{To: 0, V: 150000}, api.Msg{To: 2, V: 300000}), api.OK)
	checkStep(t, g, j, state(10, v, "...", api.Msg{To: 1, V: 100}), state(11, vals(150000, 150085, 150000), "rrr"), api.OK)
	checkStep(t, g, j, state(39, v, ".rr", api.Msg{To: 1, V: 100}), state(40, vals(150000, 150085, 1000000), "rrr"), api.OK)
}

// P6.2: a number that is too great, in any vertex's turn or in the folding, and none where the vertex rests.
func TestStepTooGreat(t *testing.T) {
	over := api.State{}
	sssp, level, rank := job(api.Sssp, 0, 9), job(api.Level, 1, 9), job(api.Rank, 0, 9)
	checkStep(t, great(), sssp, state(1, vals(0, far, far), "rrr", api.Msg{To: 1, V: api.MaxWeight}), over, api.ErrOver)
	checkStep(t, great(), sssp, state(1, vals(0, far, far), "rrr", api.Msg{To: 1, V: api.MaxWeight - 1}), state(2, vals(0, api.MaxWeight-1, far), "rrr", api.Msg{To: 2, V: far}), api.OK)
	checkStep(t, great(), sssp, state(0, vals(far, far, far), "..."), over, api.ErrOver)
	checkStep(t, great(), sssp, state(0, vals(far, far, far), "r.."), state(1, vals(far, far, far), "rrr"), api.OK)
	checkStep(t, great(), sssp, state(0, vals(far, far, far), "r..", api.Msg{To: 0, V: far}), over, api.ErrOver)
	checkStep(t, pair(), level, state(0, vals(far, far), ".."), over, api.ErrOver)
	checkStep(t, pair(), level, state(0, vals(far, far), ".r"), state(1, vals(far, far), "rr"), api.OK)
	// The last vertex alone: what the ones ahead did isn't told.
	last := api.Graph{N: 3, Edges: []api.Edge{{From: 0, To: 1, W: 1}, {From: 2, To: 0, W: 2}}}
	checkStep(t, last, sssp, state(3, vals(far, far, far), "rrr", api.Msg{To: 0, V: 4}, api.Msg{To: 2, V: far - 1}), over, api.ErrOver)
	checkStep(t, last, sssp, state(3, vals(far, far, far), "rrr", api.Msg{To: 0, V: 4}, api.Msg{To: 2, V: far - 2}), state(4, vals(4, far, far-2), "rrr", api.Msg{To: 0, V: far}, api.Msg{To: 1, V: 5}), api.OK)
	// Of Rank: what came, and the sum of what is sent to one vertex.
	checkStep(t, pair(), rank, state(1, vals(1, 1), "rr", api.Msg{To: 1, V: greatest}), over, api.ErrOver)
	two := api.Graph{N: 3, Edges: []api.Edge{{From: 0, To: 2}, {From: 1, To: 2}}}
	checkStep(t, two, rank, state(0, vals(greatest, 1, 0), "..."), over, api.ErrOver)
	checkStep(t, two, rank, state(0, vals(lowest, -1, 0), "..."), over, api.ErrOver)
	checkStep(t, two, rank, state(0, vals(greatest-1, 1, 0), "..."), state(1, vals(greatest-1, 1, 0), "...", api.Msg{To: 2, V: greatest}), api.OK)
	checkStep(t, two, rank, state(0, vals(greatest, 1, 0), ".r."), state(1, vals(greatest, 1, 0), ".r.", api.Msg{To: 2, V: greatest}), api.OK)
	for _, p := range []int{api.Comp, api.Most} {
		checkStep(t, two, job(p, 0, 9), state(0, vals(greatest, greatest, lowest), "..."), state(1, vals(greatest, greatest, lowest), "rrr", api.Msg{To: 2, V: greatest}), api.OK)
	}
}

// P6.2: any right state of any graph and job, against the document's words; what is answered is right.
func TestStepOfAny(t *testing.T) {
	r := rand.New(rand.NewPCG(6, 1))
	told := map[api.Errno]int{}
	for i := range 12000 {
		g := anyGraph(r, i%2 == 0)
		j, s := anyJob(r, g), anyState(r, g)
		checkRight(t, g, j, s, true)
		want, err := wantedStep(g, j, s)
		checkStep(t, g, j, s, want, err)
		told[err]++
		if next, e := Step(g, j, s); e == api.OK {
			checkRight(t, g, j, next, true)
		}
	}
	if told[api.OK] < 1000 || told[api.ErrOver] < 1000 || len(told) != 2 {
		t.Errorf("Step has told %v", told)
	}
}

// checkWholeRun: P6.3, P6.4 of a run: Run, and At of each step, ahead of the first one and beyond the last one; it answers the run's kind.
func checkWholeRun(t *testing.T, g api.Graph, j api.Job) int {
	t.Helper()
	l, kind := wantedRun(g, j)
	last := l[len(l)-1]
	want := api.Answer{Kind: kind, Step: last.Step, Vals: last.Vals}
	if kind == api.TooGreat {
		want.Vals = nil
	}
	checkRun(t, g, j, want)
	for n, s := range l {
		checkAt(t, g, j, n, s, api.OK)
		checkRight(t, g, j, s, true)
		checkQuiet(t, s, kind == api.Done && n == last.Step)
	}
	for _, n := range []int{lowest, -1, last.Step + 1, last.Step + 2, api.MaxSteps + 1, 1 << 32, greatest} {
		checkAt(t, g, j, n, api.State{}, api.ErrNone)
	}
	return kind
}

// P6.3: Limit 0, 1, MaxSteps, and the ones around the step at which a run is just Done.
func TestRunLimits(t *testing.T) {
	for _, c := range []struct {
		g    api.Graph
		p    int
		last int
		vals []int64
	}{
		{api.Graph{N: 1}, api.Sssp, 1, vals(0)},
		{api.Graph{N: 1}, api.Comp, 1, vals(0)},
		{api.Graph{N: 1}, api.Level, 1, vals(0)},
		{api.Graph{N: 1}, api.Most, 1, vals(7)},
		{api.Graph{N: 1}, api.Rank, 11, vals(150000)},
		{api.Graph{N: 1, Edges: []api.Edge{{W: 4}}}, api.Sssp, 2, vals(0)},
		{api.Graph{N: 1, Edges: []api.Edge{{W: 4}}}, api.Comp, 2, vals(0)},
		{api.Graph{N: 1, Edges: []api.Edge{{W: 4}}}, api.Rank, 11, vals(1000000)},
		{api.Graph{N: 3}, api.Sssp, 1, vals(0, far, far)},
		{api.Graph{N: 3}, api.Comp, 1, vals(0, 1, 2)},
		{api.Graph{N: 3}, api.Most, 1, vals(7, 38, 131)},
		{pair(), api.Sssp, 3, vals(0, 7)},
		{pair(), api.Level, 3, vals(0, 1)},
		{pair(), api.Comp, 3, vals(0, 0)},
		{pair(), api.Most, 3, vals(38, 38)},
		{pair(), api.Rank, 11, vals(1000000, 1000000)},
		{forks(), api.Sssp, 4, vals(0, 5, 2, 6, far)},
		{forks(), api.Level, 3, vals(0, 1, 1, 2, far)},
		{forks(), api.Comp, 3, vals(0, 0, 0, 0, 4)},
		{forks(), api.Most, 4, vals(503, 503, 503, 503, 503)},
		{row(api.MaxVerts, 1), api.Sssp, 24, vals(0, 1, 2, 3, 4, 5, 6, 7, 8, 9, 10, 11, 12, 13, 14, 15, 16, 17, 18, 19, 20, 21, 22, 23)},
		{around(api.MaxVerts, 5), api.Level, 25, vals(0, 1, 2, 3, 4, 5, 6, 7, 8, 9, 10, 11, 12, 13, 14, 15, 16, 17, 18, 19, 20, 21, 22, 23)},
		{around(api.MaxVerts, 5), api.Comp, 25, make([]int64, api.MaxVerts)},
	} {
		for limit := range api.MaxSteps + 1 {
			j := job(c.p, 0, limit)
			if limit >= c.last {
				checkRun(t, c.g, j, api.Answer{Kind: api.Done, Step: c.last, Vals: c.vals})
				checkAt(t, c.g, j, c.last+1, api.State{}, api.ErrNone)
				continue
			}
			got := Run(c.g, j)
			if got.Kind != api.StepsOut || got.Step != limit || len(got.Vals) != c.g.N {
				t.Errorf("Run(%v, %v): %v", c.g, j, got)
			}
			checkAt(t, c.g, j, limit+1, api.State{}, api.ErrNone)
		}
	}
	for _, g := range graphs() {
		for _, p := range programs() {
			j := job(p, 0, 0)
			checkRun(t, g, j, api.Answer{Kind: api.StepsOut, Vals: firstVals(g.N, j)})
		}
	}
}

// P6.3, P6.4: a run that becomes too great: its last state is told by At, its Vals not by Run; with a Limit there it is StepsOut.
func TestRunTooGreat(t *testing.T) {
	g := great()
	checkRun(t, g, job(api.Sssp, 0, 0), api.Answer{Kind: api.StepsOut, Step: 0, Vals: vals(0, far, far)})
	checkRun(t, g, job(api.Sssp, 0, 1), api.Answer{Kind: api.StepsOut, Step: 1, Vals: vals(0, far, far)})
	for _, limit := range []int{2, 3, 9, api.MaxSteps} {
		j := job(api.Sssp, 0, limit)
		checkRun(t, g, j, api.Answer{Kind: api.TooGreat, Step: 1})
		checkAt(t, g, j, 0, state(0, vals(0, far, far), "..."), api.OK)
		checkAt(t, g, j, 1, state(1, vals(0, far, far), "rrr", api.Msg{To: 1, V: api.MaxWeight}), api.OK)
		for _, n := range []int{lowest, -1, 2, 3, limit, limit + 1, greatest} {
			if n > 1 || n < 0 {
				checkAt(t, g, j, n, api.State{}, api.ErrNone)
			}
		}
	}
	checkRun(t, g, job(api.Sssp, 1, 9), api.Answer{Kind: api.Done, Step: 2, Vals: vals(far, 0, api.MaxWeight)})
	checkRun(t, g, job(api.Level, 0, 9), api.Answer{Kind: api.Done, Step: 3, Vals: vals(0, 1, 2)})
	// One less, and what comes to 2 is Far: no better than what it has.
	g.Edges[1].W--
	checkRun(t, g, job(api.Sssp, 0, 9), api.Answer{Kind: api.Done, Step: 3, Vals: vals(0, api.MaxWeight, far)})
	// A way that is too great at step 1 stops the run, though a shorter one would have come.
	g = api.Graph{N: 4, Edges: []api.Edge{{From: 0, To: 1, W: api.MaxWeight}, {From: 0, To: 3, W: 1}, {From: 1, To: 2, W: api.MaxWeight}, {From: 3, To: 1, W: 1}}}
	checkRun(t, g, job(api.Sssp, 0, 9), api.Answer{Kind: api.TooGreat, Step: 1})
}

// P6.3, P6.4 of the graphs by hand: all programs, sources and Limits.
func TestRunAgainstOtherMeans(t *testing.T) {
	for _, g := range graphs() {
		for _, p := range programs() {
			for source := range g.N {
				for _, limit := range []int{0, 1, 2, 3, 10, 11, api.MaxSteps} {
					checkWholeRun(t, g, api.Job{Prog: p, Source: source, Limit: limit, Parts: 1 + source%api.MaxParts})
				}
			}
		}
	}
}

// P6.3, P6.4: all graphs of up to three vertices.
func TestRunOfSmallGraphs(t *testing.T) {
	weights := vals(0, 3, 1, api.MaxWeight, 2, 8, api.MaxWeight, 5, api.MaxWeight)
	for n := 1; n <= 3; n++ {
		for set := range 1 << (n * n) {
			g := api.Graph{N: n}
			for place := range n * n {
				if set>>place&1 == 1 {
					g.Edges = append(g.Edges, api.Edge{From: place / n, To: place % n, W: weights[place]})
				}
			}
			for _, p := range programs() {
				checkWholeRun(t, g, job(p, set%n, api.MaxSteps))
				checkWholeRun(t, g, job(p, set%n, set%5))
			}
		}
	}
}

// P6.3, P6.4 of any graphs and jobs; all kinds come.
func TestRunOfAny(t *testing.T) {
	r := rand.New(rand.NewPCG(6, 2))
	kinds := map[int]int{}
	for i := range 3000 {
		g := anyGraph(r, i%2 == 0)
		j := anyJob(r, g)
		if i%4 == 0 {
			j.Prog, j.Limit = api.Sssp, api.MaxSteps
		}
		kinds[checkWholeRun(t, g, j)]++
	}
	if kinds[api.Done] < 100 || kinds[api.StepsOut] < 100 || kinds[api.TooGreat] < 100 || len(kinds) != 3 {
		t.Errorf("kinds: %v", kinds)
	}
}

// P6.3, P6.4: Parts change nothing, nor does Source where the program has none.
func TestRunWhateverParts(t *testing.T) {
	for _, g := range graphs() {
		for _, p := range programs() {
			j := job(p, g.N-1, api.MaxSteps)
			want := Run(g, j)
			for parts := 1; parts <= api.MaxParts; parts++ {
				j.Parts = parts
				checkRun(t, g, j, want)
			}
			if p == api.Comp || p == api.Most || p == api.Rank {
				checkRun(t, g, job(p, 0, api.MaxSteps), want)
			}
		}
	}
}

// P6.5: no Step above Limit; what is Done stays so with any greater Limit.
func TestGreaterLimits(t *testing.T) {
	r := rand.New(rand.NewPCG(6, 3))
	for i := range 200 {
		g := anyGraph(r, i%3 == 0)
		j := anyJob(r, g)
		var done api.Answer
		for limit := range api.MaxSteps + 1 {
			j.Limit = limit
			a := Run(g, j)
			if a.Step > limit || a.Step < 0 || a.Kind < api.Done || a.Kind > api.StepsOut {
				t.Errorf("Run(%v, %v): %v", g, j, a)
			}
			if done.Kind == api.Done && !sameAnswer(a, done) {
				t.Errorf("Run(%v, %v): %v; with a less Limit: %v", g, j, a, done)
			}
			if a.Kind == api.Done {
				done = a
			}
		}
		if done.Kind != api.Done && j.Prog != api.Sssp {
			t.Errorf("%v, %v: never Done", g, j)
		}
	}
}

// P6.6: of a quiet state, of a run or any other, a superstep changes nothing but Step.
func TestStepOfQuiet(t *testing.T) {
	r := rand.New(rand.NewPCG(6, 4))
	check := func(g api.Graph, j api.Job, s api.State) {
		t.Helper()
		checkQuiet(t, s, true)
		want := s
		want.Step++
		checkStep(t, g, j, s, want, api.OK)
		next, _ := Step(g, j, s)
		checkQuiet(t, next, true)
	}
	for i := range 2000 {
		g := anyGraph(r, i%2 == 0)
		j, s := anyJob(r, g), anyState(r, g)
		s.In, s.Rest = nil, slices.Repeat([]bool{true}, g.N)
		check(g, j, s)
		if a := Run(g, j); a.Kind == api.Done {
			end, _ := At(g, j, a.Step)
			check(g, j, end)
		}
	}
	for _, p := range programs() {
		for step := range api.MaxSteps {
			check(pair(), job(p, 0, 0), state(step, vals(far, lowest), "rr"))
		}
	}
}

// checkShortest: P6.7 of one run of Sssp that is Done.
func checkShortest(t *testing.T, g api.Graph, source int, told []int64) {
	t.Helper()
	way := func(e api.Edge) *big.Int {
		return new(big.Int).Add(big.NewInt(told[e.From]), big.NewInt(e.W))
	}
	if told[source] != 0 {
		t.Errorf("%v from %d: %v", g, source, told)
	}
	reached := make([]bool, g.N)
	reached[source] = true
	for _, e := range g.Edges {
		if told[e.From] == far {
			continue
		}
		order := way(e).Cmp(big.NewInt(told[e.To]))
		if order < 0 {
			t.Errorf("%v from %d: %v: along %v there is a shorter way", g, source, told, e)
		}
		reached[e.To] = reached[e.To] || order == 0
	}
	for v, val := range told {
		if val != far && !reached[v] {
			t.Errorf("%v from %d: %v: no edge by which %d has its value", g, source, told, v)
		}
	}
}

// P6.7: of any Sssp that is Done.
func TestShortestWays(t *testing.T) {
	r := rand.New(rand.NewPCG(6, 5))
	done := 0
	for i := range 3000 {
		g := anyGraph(r, i%3 == 0)
		j := job(api.Sssp, r.IntN(g.N), api.MaxSteps)
		if a := Run(g, j); a.Kind == api.Done {
			checkShortest(t, g, j.Source, a.Vals)
			done++
		}
	}
	if done < 1000 {
		t.Errorf("%d are Done", done)
	}
}

// P6.7: of the graphs by hand, from each vertex.
func TestShortestWaysByHand(t *testing.T) {
	for _, g := range graphs() {
		for source := range g.N {
			if a := Run(g, job(api.Sssp, source, api.MaxSteps)); a.Kind == api.Done {
				checkShortest(t, g, source, a.Vals)
			}
		}
	}
}

// roomy answers a list with spare room, and all of its memory.
func roomy[T any](l []T, fill T) (handed, all []T) {
	all = append(slices.Clone(l), slices.Repeat([]T{fill}, 9)...)
	return all[:len(l)], all
}

// spoil writes over a list, and over its spare room.
func spoil[T any](l []T, fill T) {
	l = l[:cap(l)]
	for i := range l {
		l[i] = fill
	}
}

// spoilState writes over a state's lists: it turns each Rest, as either bool may have stood there.
func spoilState(s api.State) {
	spoil(s.Vals, -77)
	spoil(s.In, api.Msg{To: -7, V: -8})
	rest := s.Rest[:cap(s.Rest)]
	for i := range rest {
		rest[i] = !rest[i]
	}
}

func cloneState(s api.State) api.State {
	return api.State{Step: s.Step, Vals: slices.Clone(s.Vals), Rest: slices.Clone(s.Rest), In: slices.Clone(s.In)}
}

// R3: what is handed to Step is neither changed nor kept, and what it answers shares nothing with it, nor with another answer, spare room too.
func TestMemoryOfStep(t *testing.T) {
	r := rand.New(rand.NewPCG(6, 6))
	for i := range 1500 {
		g := anyGraph(r, i%2 == 0)
		j, s := anyJob(r, g), anyState(r, g)
		if i%5 == 0 {
			s.In, s.Rest = nil, slices.Repeat([]bool{true}, g.N)
		}
		var all, before api.State
		var handed api.State
		handed.Step = s.Step
		handed.Vals, all.Vals = roomy(s.Vals, 91)
		handed.Rest, all.Rest = roomy(s.Rest, i%2 == 0)
		handed.In, all.In = roomy(s.In, api.Msg{To: 92, V: 93})
		edges, allEdges := roomy(g.Edges, api.Edge{From: 94})
		before = cloneState(all)
		beforeEdges := slices.Clone(allEdges)
		want, err := wantedStep(g, j, s)
		first, _ := Step(api.Graph{N: g.N, Edges: edges}, j, handed)
		again, _ := Step(api.Graph{N: g.N, Edges: edges}, j, handed)
		Right(api.Graph{N: g.N, Edges: edges}, j, handed)
		Quiet(handed)
		spoilState(first)
		if !sameState(all, before) || !slices.Equal(allEdges, beforeEdges) {
			t.Errorf("Step(%v, %v, %v): what was handed in was changed", g, j, s)
		}
		spoilState(all)
		spoil(allEdges, api.Edge{From: 95})
		if !sameState(again, want) {
			t.Errorf("Step(%v, %v, %v): what was handed in was kept, or shared", g, j, s)
		}
		checkStep(t, g, j, s, want, err)
	}
}

// R3, R4: of Begin, At and Run: the graph stays as it was, and no answer shares memory with another one, nor hangs on what was done with it.
func TestMemoryOfRuns(t *testing.T) {
	for _, g := range graphs() {
		edges, all := roomy(g.Edges, api.Edge{From: 94})
		before := slices.Clone(all)
		handed := api.Graph{N: g.N, Edges: edges}
		for _, p := range programs() {
			for _, limit := range []int{0, 1, 2, 3, 11, api.MaxSteps} {
				j := job(p, 0, limit)
				begin, beginAgain := first(Begin(handed, j)), first(Begin(handed, j))
				wantBegin := cloneState(begin)
				spoilState(begin)
				run, runAgain := Run(handed, j), Run(handed, j)
				wantRun := api.Answer{Kind: run.Kind, Step: run.Step, Vals: slices.Clone(run.Vals)}
				spoil(run.Vals, -77)
				if !sameState(beginAgain, wantBegin) || !sameAnswer(runAgain, wantRun) {
					t.Errorf("%v, %v: answers share memory", g, j)
				}
				for n := range limit + 2 {
					at, atAgain := first(At(handed, j, n)), first(At(handed, j, n))
					wantAt := cloneState(at)
					spoilState(at)
					if !sameState(atAgain, wantAt) || !sameState(first(At(g, j, n)), wantAt) {
						t.Errorf("At(%v, %v, %d): answers share memory", g, j, n)
					}
				}
				checkBegin(t, g, j, wantBegin, api.OK)
				checkRun(t, g, j, wantRun)
			}
		}
		if !slices.Equal(all, before) {
			t.Errorf("the edges handed in were changed: %v", all)
		}
	}
}

func first(s api.State, err api.Errno) api.State {
	return s
}

// R3: a nil list and an empty one are the same.
func TestNilAndEmpty(t *testing.T) {
	for _, p := range programs() {
		for _, rest := range []string{"..", "rr"} {
			for _, in := range [][]api.Msg{nil, {}, make([]api.Msg, 0, 4)} {
				s := api.State{Vals: vals(3, 4), Rest: rests(rest), In: in}
				want, err := wantedStep(pair(), job(p, 0, 9), s)
				checkRight(t, pair(), job(p, 0, 9), s, true)
				checkStep(t, pair(), job(p, 0, 9), s, want, err)
				checkQuiet(t, s, rest == "rr")
			}
		}
		for _, edges := range [][]api.Edge{nil, {}, make([]api.Edge, 0, 4)} {
			checkWholeRun(t, api.Graph{N: 2, Edges: edges}, job(p, 0, 40))
		}
	}
}

// R1: any numbers in any fields: nothing panics, and with an error nothing else is told.
func TestAnyArguments(t *testing.T) {
	r := rand.New(rand.NewPCG(6, 7))
	pick := func(n int) int {
		l := []int{lowest, -1, 0, 1, 2, 5, n - 1, n, n + 1, api.MaxSteps, api.MaxSteps + 1, 1 << 32, greatest}
		return l[r.IntN(len(l))]
	}
	told := map[api.Errno]int{}
	for range 20000 {
		g := anyGraph(r, true)
		n := g.N
		if r.IntN(8) == 0 {
			g.N = pick(n)
		}
		if len(g.Edges) > 0 && r.IntN(8) == 0 {
			g.Edges[r.IntN(len(g.Edges))] = api.Edge{From: pick(n), To: pick(n), W: int64(pick(n))}
		}
		j := api.Job{Prog: 1 + r.IntN(5), Source: r.IntN(n), Limit: r.IntN(41), Parts: 1 + r.IntN(6)}
		if r.IntN(8) == 0 {
			j = api.Job{Prog: pick(n), Source: pick(n), Limit: pick(n), Parts: pick(n)}
		}
		s := sized(r.IntN(41), n, n, nil)
		if r.IntN(4) == 0 {
			s = sized(pick(n), n-r.IntN(2), n+r.IntN(2), nil)
		}
		for range r.IntN(4) {
			s.In = append(s.In, api.Msg{To: pick(n), V: int64(pick(n))})
		}
		Quiet(s)
		next, e := Step(g, j, s)
		told[e]++
		if e != api.OK && !sameState(next, api.State{}) || (e == api.OK || e == api.ErrOver) && !Right(g, j, s) {
			t.Errorf("Step(%v, %v, %v): %v, %d", g, j, s, next, e)
		}
		if e := prog.Check(g, j); e != api.OK {
			checkRun(t, g, j, api.Answer{Kind: api.Rejected})
			checkBegin(t, g, j, api.State{}, e)
			checkAt(t, g, j, pick(n), api.State{}, e)
		}
	}
	for _, e := range []api.Errno{api.OK, api.ErrArg, api.ErrNone, api.ErrState, api.ErrOver} {
		if told[e] == 0 {
			t.Errorf("nothing was answered by %d: %v", e, told)
		}
	}
}
