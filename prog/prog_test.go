package prog

import (
	"math/big"
	"math/rand/v2"
	"slices"
	"testing"

	"haywain/api"
	"haywain/graph"
)

const (
	greatest = 1<<63 - 1
	lowest   = -1 << 63
)

// answer is what Turn answers.
type answer struct {
	val  int64
	sent []api.Msg
	rest bool
	err  api.Errno
}

// ask is what Turn is asked, but for the graph and the job.
type ask struct {
	step, v  int
	val, got int64
	some     bool
}

func sameAnswer(a, b answer) bool {
	return a.val == b.val && slices.Equal(a.sent, b.sent) && a.rest == b.rest && a.err == b.err
}

func turned(g api.Graph, j api.Job, a ask) answer {
	val, sent, rest, err := Turn(g, j, a.step, a.v, a.val, a.got, a.some)
	return answer{val, sent, rest, err}
}

func checkTurn(t *testing.T, g api.Graph, j api.Job, a ask, want answer) {
	t.Helper()
	if got := turned(g, j, a); !sameAnswer(got, want) {
		t.Errorf("Turn(%v, %v, %v): %v; want %v", g, j, a, got, want)
	}
}

func checkStart(t *testing.T, g api.Graph, j api.Job, v int, want int64, err api.Errno) {
	t.Helper()
	if val, e := Start(g, j, v); val != want || e != err {
		t.Errorf("Start(%v, %v, %d): %d, %d; want %d, %d", g, j, v, val, e, want, err)
	}
}

func checkFold(t *testing.T, prog int, a, b, want int64, err api.Errno) {
	t.Helper()
	if val, e := Fold(prog, a, b); val != want || e != err {
		t.Errorf("Fold(%d, %d, %d): %d, %d; want %d, %d", prog, a, b, val, e, want, err)
	}
}

func msgs(l ...api.Msg) []api.Msg {
	return l
}

func job(prog, source int) api.Job {
	return api.Job{Prog: prog, Source: source, Limit: 9, Parts: 2}
}

func pair() api.Graph {
	return api.Graph{N: 2, Edges: []api.Edge{{From: 0, To: 1, W: 7}, {From: 1, To: 0, W: 5}}}
}

// fan answers a graph whose vertices have no edge (0), one edge (1), several of them (2), an edge to itself alone (3), several and one to itself (4).
func fan() api.Graph {
	return api.Graph{N: 5, Edges: []api.Edge{
		{From: 1, To: 4, W: 3},
		{From: 2, To: 0, W: 10}, {From: 2, To: 1, W: 0}, {From: 2, To: 4, W: api.MaxWeight},
		{From: 3, To: 3, W: 6},
		{From: 4, To: 0, W: 1}, {From: 4, To: 1, W: 2}, {From: 4, To: 3, W: 3}, {From: 4, To: 4, W: 4},
	}}
}

// wrongGraphs answers graphs that aren't right, and their errors.
func wrongGraphs() []struct {
	g   api.Graph
	err api.Errno
} {
	full := api.Graph{N: api.MaxVerts}
	for i := range api.MaxEdges + 1 {
		full.Edges = append(full.Edges, api.Edge{From: i / api.MaxVerts, To: i % api.MaxVerts})
	}
	return []struct {
		g   api.Graph
		err api.Errno
	}{
		{api.Graph{}, api.ErrArg},
		{api.Graph{N: -1}, api.ErrArg},
		{api.Graph{N: lowest}, api.ErrArg},
		{api.Graph{N: api.MaxVerts + 1}, api.ErrArg},
		{api.Graph{N: greatest, Edges: []api.Edge{{}}}, api.ErrArg},
		{full, api.ErrFull},
		{api.Graph{N: 2, Edges: []api.Edge{{From: 0, To: 2}}}, api.ErrNone},
		{api.Graph{N: 2, Edges: []api.Edge{{From: -1, To: 0}}}, api.ErrNone},
		{api.Graph{N: 2, Edges: []api.Edge{{W: -1}}}, api.ErrArg},
		{api.Graph{N: 2, Edges: []api.Edge{{W: api.MaxWeight + 1}}}, api.ErrArg},
		{api.Graph{N: 2, Edges: []api.Edge{{W: 1}, {W: 2}}}, api.ErrTwice},
		{api.Graph{N: 2, Edges: []api.Edge{{From: 1}, {To: 1}}}, api.ErrState},
	}
}

// anyGraph answers a graph that is right.
func anyGraph(r *rand.Rand) api.Graph {
	n := 1 + r.IntN(api.MaxVerts)
	if r.IntN(2) == 0 {
		n = 1 + r.IntN(4)
	}
	places := r.Perm(n * n)
	places = places[:r.IntN(1+min(len(places), api.MaxEdges))]
	slices.Sort(places)
	weights := []int64{0, 1, 7, api.MaxWeight - 1, api.MaxWeight, r.Int64N(api.MaxWeight), int64(r.IntN(100))}
	g := api.Graph{N: n}
	for _, p := range places {
		g.Edges = append(g.Edges, api.Edge{From: p / n, To: p % n, W: weights[r.IntN(len(weights))]})
	}
	return g
}

// numbers answers numbers at and around the ends, and where a program's reckoning turns.
func numbers() []int64 {
	var l []int64
	for d := int64(-2); d <= 2; d++ {
		for _, mid := range []int64{0, 100, 85, 150000, Unit, 1 << 31, api.MaxWeight, greatest/85 + 1, greatest - api.MaxWeight} {
			l = append(l, mid+d, -mid+d)
		}
	}
	l = append(l, lowest, lowest+1, lowest+2, greatest, greatest-1, greatest-2, greatest-7)
	slices.Sort(l)
	return slices.Compact(l)
}

// jobOK is what the document says of a job, by other means.
func jobOK(n int, j api.Job) bool {
	vertices := make([]int, n)
	for v := range vertices {
		vertices[v] = v
	}
	return slices.Contains([]int{1, 2, 3, 4, 5}, j.Prog) && slices.Contains(vertices, j.Source) && j.Limit >= 0 && j.Limit < 41 && j.Parts > 0 && j.Parts < 7
}

// wanted is what the document says of Turn, by other means.
func wanted(g api.Graph, j api.Job, a ask) answer {
	if err := graph.Check(g); err != api.OK {
		return answer{err: err}
	}
	if !jobOK(g.N, j) {
		return answer{err: api.ErrArg}
	}
	if a.v < 0 || a.v >= g.N {
		return answer{err: api.ErrNone}
	}
	if a.step < 0 || a.step > 40 {
		return answer{err: api.ErrArg}
	}
	val, sends, rest, over := big.NewInt(a.val), false, true, false
	if j.Prog == 5 {
		val, over = wantedRank(a)
		sends, rest = a.step < 10, a.step >= 10
	} else {
		came := big.NewInt(a.got)
		if a.some && (j.Prog == 4 && came.Cmp(val) > 0 || j.Prog != 4 && came.Cmp(val) < 0) {
			val, sends = came, true
		}
		begins := j.Prog == 2 || j.Prog == 4 || a.v == j.Source
		sends = sends || a.step == 0 && begins
	}
	edges := slices.DeleteFunc(slices.Clone(g.Edges), func(e api.Edge) bool { return !sends || e.From != a.v })
	var sent []api.Msg
	for _, e := range edges {
		m := new(big.Int).Set(val)
		switch j.Prog {
		case 1:
			m.Add(m, big.NewInt(e.W))
		case 3:
			m.Add(m, big.NewInt(1))
		case 5:
			m.Quo(m, big.NewInt(int64(len(edges))))
		}
		over = over || !m.IsInt64()
		sent = append(sent, api.Msg{To: e.To, V: m.Int64()})
	}
	if over || !val.IsInt64() {
		return answer{err: api.ErrOver}
	}
	return answer{val.Int64(), sent, rest, api.OK}
}

// wantedRank answers a value of Rank; true: a number on the way there is too great.
func wantedRank(a ask) (*big.Int, bool) {
	if a.step == 0 {
		return big.NewInt(a.val), false
	}
	came := new(big.Int)
	if a.some {
		came.SetInt64(a.got)
	}
	came.Mul(came, big.NewInt(85))
	over := !came.IsInt64()
	came.Quo(came, big.NewInt(100))
	return came.Add(came, big.NewInt(150000)), over
}

// The chapter's examples.
func TestExamples(t *testing.T) {
	g := pair()
	checkStart(t, g, job(api.Sssp, 0), 0, 0, api.OK)
	checkStart(t, g, job(api.Sssp, 0), 1, api.Far, api.OK)
	checkStart(t, fan(), job(api.Most, 0), 2, 131, api.OK)
	checkTurn(t, g, job(api.Sssp, 0), ask{step: 0, v: 0}, answer{0, msgs(api.Msg{To: 1, V: 7}), true, api.OK})
	checkTurn(t, g, job(api.Sssp, 0), ask{1, 1, api.Far, 7, true}, answer{7, msgs(api.Msg{To: 0, V: 12}), true, api.OK})
	checkTurn(t, g, job(api.Rank, 0), ask{1, 0, Unit, 1000000, true}, answer{1000000, msgs(api.Msg{To: 1, V: 1000000}), false, api.OK})
}

// The constants of 'Functions', as numbers of any kind.
func TestConstants(t *testing.T) {
	if int64(Rounds) != 10 || int32(Unit) != 1000000 || float64(Unit) != 1e6 || uint8(Rounds) != 10 {
		t.Errorf("Rounds %d, Unit %d", Rounds, Unit)
	}
}

// P4.1: each field of a job, at its ends and beyond them.
func TestCheckFields(t *testing.T) {
	check := func(g api.Graph, j api.Job, ok bool) {
		t.Helper()
		want := api.ErrArg
		if ok {
			want = api.OK
		}
		if e := Check(g, j); e != want {
			t.Errorf("Check(%v, %v): %d; want %d", g, j, e, want)
		}
	}
	for _, n := range []int{1, 2, 5, api.MaxVerts} {
		g := api.Graph{N: n}
		for prog, ok := range map[int]bool{lowest: false, -1: false, 0: false, 1: true, 2: true, 3: true, 4: true, 5: true, 6: false, 7: false, 1<<32 + 1: false, greatest: false} {
			check(g, api.Job{Prog: prog, Parts: 1}, ok)
		}
		for _, prog := range []int{1, 2, 3, 4, 5} {
			for source, ok := range map[int]bool{lowest: false, -1: false, 0: true, n - 1: true, n: false, n + 1: false, 1 << 32: false, greatest: false} {
				check(g, api.Job{Prog: prog, Source: source, Parts: 1}, ok)
			}
			for limit, ok := range map[int]bool{lowest: false, -1: false, 0: true, 1: true, api.MaxSteps - 1: true, api.MaxSteps: true, api.MaxSteps + 1: false, 1 << 32: false, greatest: false} {
				check(g, api.Job{Prog: prog, Limit: limit, Parts: 1}, ok)
			}
			for parts, ok := range map[int]bool{lowest: false, -1: false, 0: false, 1: true, 2: true, api.MaxParts - 1: true, api.MaxParts: true, api.MaxParts + 1: false, 1<<32 + 1: false, greatest: false} {
				check(g, api.Job{Prog: prog, Parts: parts}, ok)
			}
		}
	}
	check(api.Graph{N: 1}, api.Job{}, false)
}

// jobs answers all jobs of a few numbers for each field, most of them wrong in several.
func jobs(n int) []api.Job {
	var l []api.Job
	for _, prog := range []int{-1, 0, 1, 2, 3, 4, 5, 6} {
		for _, source := range []int{-1, 0, n - 1, n} {
			for _, limit := range []int{-1, 0, api.MaxSteps, api.MaxSteps + 1} {
				for _, parts := range []int{0, 1, api.MaxParts, api.MaxParts + 1} {
					l = append(l, api.Job{Prog: prog, Source: source, Limit: limit, Parts: parts})
				}
			}
		}
	}
	return l
}

// P4.1, P4.2: whatever is wrong with a job, in whichever fields, is ErrArg, ahead of a vertex and a step that are none.
func TestWrongJobs(t *testing.T) {
	g := fan()
	for _, j := range jobs(g.N) {
		if jobOK(g.N, j) {
			if e := Check(g, j); e != api.OK {
				t.Errorf("Check of %v: %d", j, e)
			}
			continue
		}
		if e := Check(g, j); e != api.ErrArg {
			t.Errorf("Check of %v: %d", j, e)
		}
		for _, v := range []int{-1, 0, g.N - 1, g.N} {
			checkStart(t, g, j, v, 0, api.ErrArg)
			for _, step := range []int{-1, 0, 1, api.MaxSteps + 1} {
				checkTurn(t, g, j, ask{step, v, greatest, greatest, true}, answer{err: api.ErrArg})
			}
		}
	}
}

// P4.1, P4.2: a graph that isn't right is told by its own error, ahead of the job's, the vertex's and the step's.
func TestWrongGraphs(t *testing.T) {
	for _, c := range wrongGraphs() {
		for _, j := range append(jobs(2), api.Job{}, api.Job{Prog: lowest, Source: lowest, Limit: lowest, Parts: lowest}) {
			if e := Check(c.g, j); e != c.err {
				t.Errorf("Check(%v, %v): %d; want %d", c.g, j, e, c.err)
			}
			for _, v := range []int{-1, 0, 1, 2} {
				checkStart(t, c.g, j, v, 0, c.err)
				for _, step := range []int{-1, 0, 1, api.MaxSteps + 1} {
					checkTurn(t, c.g, j, ask{step, v, greatest, lowest, true}, answer{err: c.err})
				}
			}
		}
	}
}

// P4.1: values at the beginning.
func TestStart(t *testing.T) {
	marks := []int64{7, 38, 131, 286, 503, 782, 114, 517, 982, 500, 80, 731, 435, 201, 29, 928, 880, 894, 970, 99, 299, 561, 885, 262}
	for _, n := range []int{1, 2, 5, api.MaxVerts} {
		for v := range n {
			for source := range n {
				way := int64(api.Far)
				if v == source {
					way = 0
				}
				for prog, want := range map[int]int64{api.Sssp: way, api.Comp: int64(v), api.Level: way, api.Most: marks[v], api.Rank: 1000000} {
					checkStart(t, api.Graph{N: n}, job(prog, source), v, want, api.OK)
				}
			}
		}
	}
	for prog, want := range map[int]int64{api.Sssp: 0, api.Comp: 2, api.Level: 0, api.Most: 131, api.Rank: 1000000} {
		checkStart(t, fan(), job(prog, 2), 2, want, api.OK)
	}
}

// P4.1: vertices that are none.
func TestStartNone(t *testing.T) {
	for _, n := range []int{1, 2, 5, api.MaxVerts} {
		for prog := 1; prog <= 5; prog++ {
			for _, v := range []int{lowest, -n, -1, n, n + 1, 1 << 32, greatest} {
				checkStart(t, api.Graph{N: n}, job(prog, 0), v, 0, api.ErrNone)
			}
		}
	}
}

// P4.1: what two numbers are folded into; only a sum can be too great.
func TestFold(t *testing.T) {
	for _, c := range []struct{ a, b, less, greater int64 }{
		{2, 3, 2, 3}, {3, 2, 2, 3}, {-2, -3, -3, -2}, {0, 0, 0, 0}, {-1, 1, -1, 1},
		{api.Far, 5, 5, api.Far}, {api.Far, api.Far, api.Far, api.Far}, {lowest, greatest, lowest, greatest}, {lowest, lowest, lowest, lowest}, {greatest, greatest - 1, greatest - 1, greatest},
	} {
		for prog, want := range map[int]int64{api.Sssp: c.less, api.Comp: c.less, api.Level: c.less, api.Most: c.greater} {
			checkFold(t, prog, c.a, c.b, want, api.OK)
		}
	}
	for _, c := range []struct {
		a, b, want int64
		err        api.Errno
	}{
		{2, 3, 5, api.OK}, {-2, 3, 1, api.OK}, {0, 0, 0, api.OK}, {500000, 500000, 1000000, api.OK},
		{greatest, 0, greatest, api.OK}, {greatest - 1, 1, greatest, api.OK}, {greatest, 1, 0, api.ErrOver}, {greatest, greatest, 0, api.ErrOver}, {1 << 62, 1 << 62, 0, api.ErrOver},
		{lowest, 0, lowest, api.OK}, {lowest + 1, -1, lowest, api.OK}, {lowest, -1, 0, api.ErrOver}, {lowest, lowest, 0, api.ErrOver}, {lowest, greatest, -1, api.OK},
	} {
		checkFold(t, api.Rank, c.a, c.b, c.want, c.err)
		checkFold(t, api.Rank, c.b, c.a, c.want, c.err)
	}
}

// P4.1: a program that is none, whatever the numbers, those whose sum is too great among them.
func TestFoldNone(t *testing.T) {
	for _, prog := range []int{lowest, -5, -1, 0, 6, 7, 1<<32 + 1, greatest} {
		for _, a := range []int64{lowest, -1, 0, 3, greatest} {
			checkFold(t, prog, a, a, 0, api.ErrArg)
		}
	}
}

// P4.1: against numbers of any size.
func TestFoldAgainstBigNumbers(t *testing.T) {
	for _, a := range numbers() {
		for _, b := range numbers() {
			l := []int64{a, b}
			for prog, want := range map[int]int64{api.Sssp: slices.Min(l), api.Comp: slices.Min(l), api.Level: slices.Min(l), api.Most: slices.Max(l)} {
				checkFold(t, prog, a, b, want, api.OK)
			}
			if sum := new(big.Int).Add(big.NewInt(a), big.NewInt(b)); sum.IsInt64() {
				checkFold(t, api.Rank, a, b, sum.Int64(), api.OK)
			} else {
				checkFold(t, api.Rank, a, b, 0, api.ErrOver)
			}
		}
	}
}

// P4.3: either order, and any grouping of three, as long as no sum is too great.
func TestFoldOrderAndGroups(t *testing.T) {
	fold2 := func(prog int, a, b int64, err api.Errno) (int64, api.Errno) {
		if err != api.OK {
			return 0, err
		}
		return Fold(prog, a, b)
	}
	grouped := map[int]int{}
	l := numbers()
	for prog := 1; prog <= 5; prog++ {
		for _, a := range l {
			for _, b := range l {
				ab, err := Fold(prog, a, b)
				checkFold(t, prog, b, a, ab, err)
				for _, c := range l {
					bc, err2 := Fold(prog, b, c)
					left, leftErr := fold2(prog, ab, c, err)
					right, rightErr := fold2(prog, a, bc, err2)
					if leftErr != api.OK || rightErr != api.OK {
						continue
					}
					grouped[prog]++
					if left != right {
						t.Errorf("%d: %d, %d, %d: %d, %d", prog, a, b, c, left, right)
					}
				}
			}
		}
		if grouped[prog] == 0 {
			t.Errorf("%d: no three were folded", prog)
		}
	}
	if all := len(l) * len(l) * len(l); grouped[api.Sssp] != all || grouped[api.Most] != all || grouped[api.Rank] == all {
		t.Errorf("%d triples, folded: %v", all, grouped)
	}
}

// P4.2: vertices and steps that are none, in their order, and ahead of a number that is too great.
func TestTurnErrors(t *testing.T) {
	g := fan()
	for prog := 1; prog <= 5; prog++ {
		for _, v := range []int{lowest, -1, g.N, g.N + 1, api.MaxVerts, 1 << 32, greatest} {
			for _, step := range []int{lowest, -1, 0, 1, api.MaxSteps, api.MaxSteps + 1, greatest} {
				checkTurn(t, g, job(prog, 0), ask{step, v, greatest, greatest, true}, answer{err: api.ErrNone})
			}
		}
		for v := range g.N {
			for _, step := range []int{lowest, -1, api.MaxSteps + 1, api.MaxSteps + 2, 1 << 32, greatest} {
				checkTurn(t, g, job(prog, v), ask{step, v, greatest, greatest, true}, answer{err: api.ErrArg})
				checkTurn(t, g, job(prog, v), ask{step, v, 3, greatest - 1, true}, answer{err: api.ErrArg})
			}
			for _, step := range []int{0, 1, Rounds - 1, Rounds, api.MaxSteps} {
				if a := turned(g, job(prog, v), ask{step, v, 5, 4, true}); a.err != api.OK {
					t.Errorf("%d: step %d, vertex %d: %d", prog, step, v, a.err)
				}
			}
		}
	}
	// Steps behind the job's own Limit are none of Turn's business.
	j := api.Job{Prog: api.Sssp, Limit: 0, Parts: 1}
	checkTurn(t, pair(), j, ask{api.MaxSteps, 1, api.Far, 7, true}, answer{7, msgs(api.Msg{To: 0, V: 12}), true, api.OK})
}

// P4.2: of all but Rank, step 0: who begins, with each kind of edges.
func TestTurnAtStart(t *testing.T) {
	g := fan()
	ends := [][]int{{}, {4}, {0, 1, 4}, {3}, {0, 1, 3, 4}}
	weights := [][]int64{{}, {3}, {10, 0, api.MaxWeight}, {6}, {1, 2, 3, 4}}
	for v := range g.N {
		same, one, way := msgs(), msgs(), msgs()
		for i, to := range ends[v] {
			same = append(same, api.Msg{To: to, V: 50})
			one = append(one, api.Msg{To: to, V: 51})
			way = append(way, api.Msg{To: to, V: 50 + weights[v][i]})
		}
		for source := range g.N {
			for prog, sent := range map[int][]api.Msg{api.Comp: same, api.Most: same, api.Sssp: way, api.Level: one} {
				if v != source && (prog == api.Sssp || prog == api.Level) {
					sent = nil
				}
				checkTurn(t, g, job(prog, source), ask{step: 0, v: v, val: 50}, answer{50, sent, true, api.OK})
				// What came but is no better changes nothing.
				checkTurn(t, g, job(prog, source), ask{0, v, 50, 50, true}, answer{50, sent, true, api.OK})
			}
		}
	}
}

// P4.2: something better came: also at step 0 to a vertex that isn't Source, and at every later step.
func TestTurnBetter(t *testing.T) {
	g := fan()
	for _, step := range []int{0, 1, 2, Rounds - 1, Rounds, Rounds + 1, api.MaxSteps} {
		for _, source := range []int{0, 1} {
			for prog, c := range map[int]struct{ val, got, sent int64 }{api.Sssp: {20, 19, 22}, api.Level: {20, 19, 20}, api.Comp: {20, 19, 19}, api.Most: {20, 21, 21}} {
				j := job(prog, source)
				checkTurn(t, g, j, ask{step, 1, c.val, c.got, true}, answer{c.got, msgs(api.Msg{To: 4, V: c.sent}), true, api.OK})
				checkTurn(t, g, j, ask{step, 0, c.val, c.got, true}, answer{c.got, nil, true, api.OK})
			}
			checkTurn(t, g, job(api.Sssp, source), ask{step, 2, api.Far, 5, true}, answer{5, msgs(api.Msg{To: 0, V: 15}, api.Msg{To: 1, V: 5}, api.Msg{To: 4, V: api.MaxWeight + 5}), true, api.OK})
			checkTurn(t, g, job(api.Level, source), ask{step, 4, api.Far, -3, true}, answer{-3, msgs(api.Msg{To: 0, V: -2}, api.Msg{To: 1, V: -2}, api.Msg{To: 3, V: -2}, api.Msg{To: 4, V: -2}), true, api.OK})
			checkTurn(t, g, job(api.Comp, source), ask{step, 3, 3, lowest, true}, answer{lowest, msgs(api.Msg{To: 3, V: lowest}), true, api.OK})
			checkTurn(t, g, job(api.Most, source), ask{step, 3, 3, greatest, true}, answer{greatest, msgs(api.Msg{To: 3, V: greatest}), true, api.OK})
		}
	}
}

// P4.2, P4.5: behind step 0 nothing is sent when nothing came, or nothing better; what stands in got then doesn't count.
func TestTurnQuiet(t *testing.T) {
	g := fan()
	for _, step := range []int{1, 2, Rounds - 1, Rounds, api.MaxSteps} {
		for prog := 1; prog <= 4; prog++ {
			for v := range g.N {
				for _, val := range []int64{lowest, -1, 0, 20, api.Far - 1, api.Far} {
					kept := answer{val, nil, true, api.OK}
					for _, got := range []int64{lowest, -1, 0, 19, 20, 21, greatest} {
						checkTurn(t, g, job(prog, v), ask{step, v, val, got, false}, kept)
					}
					checkTurn(t, g, job(prog, v), ask{step, v, val, val, true}, kept)
				}
				for _, worse := range []int64{21, 22, greatest} {
					if prog == api.Most {
						worse = 40 - worse
					}
					checkTurn(t, g, job(prog, v), ask{step, v, 20, worse, true}, answer{20, nil, true, api.OK})
				}
			}
		}
	}
}

// P4.2: at step 0, too, got counts only if it came.
func TestTurnNothingCame(t *testing.T) {
	for prog, sent := range map[int]int64{api.Sssp: 23, api.Level: 21, api.Comp: 20, api.Most: 20, api.Rank: 20} {
		for _, got := range []int64{lowest, 0, 19, 21, greatest} {
			checkTurn(t, fan(), job(prog, 1), ask{0, 1, 20, got, false}, answer{20, msgs(api.Msg{To: 4, V: sent}), prog != api.Rank, api.OK})
		}
	}
}

// P4.2: sums at the ends of 64 bits, and one beyond.
func TestTurnTooGreat(t *testing.T) {
	g := fan()
	over := answer{err: api.ErrOver}
	sssp, level := job(api.Sssp, 1), job(api.Level, 1)
	for _, step := range []int{0, 1, api.MaxSteps} {
		// The edge from 1 has 3.
		checkTurn(t, g, sssp, ask{step, 1, api.Far, greatest - 3, true}, answer{greatest - 3, msgs(api.Msg{To: 4, V: greatest}), true, api.OK})
		checkTurn(t, g, sssp, ask{step, 1, api.Far, greatest - 2, true}, over)
		checkTurn(t, g, sssp, ask{step, 1, api.Far, greatest - 1, true}, over)
		checkTurn(t, g, sssp, ask{step, 1, api.Far, lowest, true}, answer{lowest, msgs(api.Msg{To: 4, V: lowest + 3}), true, api.OK})
		checkTurn(t, g, level, ask{step, 1, api.Far, greatest - 1, true}, answer{greatest - 1, msgs(api.Msg{To: 4, V: greatest}), true, api.OK})
		checkTurn(t, g, level, ask{step, 1, api.Far, lowest, true}, answer{lowest, msgs(api.Msg{To: 4, V: lowest + 1}), true, api.OK})
		// Only the last of three edges from 2 is too great; the one of weight 0 never is.
		checkTurn(t, g, sssp, ask{step, 2, api.Far, greatest - api.MaxWeight, true}, answer{greatest - api.MaxWeight, msgs(api.Msg{To: 0, V: greatest - api.MaxWeight + 10}, api.Msg{To: 1, V: greatest - api.MaxWeight}, api.Msg{To: 4, V: greatest}), true, api.OK})
		checkTurn(t, g, sssp, ask{step, 2, api.Far, greatest - api.MaxWeight + 1, true}, over)
		// No edge, no sum.
		checkTurn(t, g, sssp, ask{step, 0, api.Far, greatest - 1, true}, answer{greatest - 1, nil, true, api.OK})
	}
	// Of Source at step 0 its own value is sent, Far too.
	checkTurn(t, g, sssp, ask{step: 0, v: 1, val: api.Far}, over)
	checkTurn(t, g, level, ask{step: 0, v: 1, val: api.Far}, over)
	checkTurn(t, g, level, ask{0, 1, api.Far, api.Far, true}, over)
	checkTurn(t, g, job(api.Sssp, 0), ask{step: 0, v: 0, val: api.Far}, answer{api.Far, nil, true, api.OK})
	checkTurn(t, g, job(api.Level, 0), ask{step: 0, v: 0, val: api.Far}, answer{api.Far, nil, true, api.OK})
	still := api.Graph{N: 2, Edges: []api.Edge{{From: 0, To: 1, W: 0}}}
	checkTurn(t, still, job(api.Sssp, 0), ask{step: 0, v: 0, val: api.Far}, answer{api.Far, msgs(api.Msg{To: 1, V: api.Far}), true, api.OK})
	// Far stays Far where nothing is sent.
	checkTurn(t, g, sssp, ask{step: 0, v: 2, val: api.Far}, answer{api.Far, nil, true, api.OK})
	checkTurn(t, g, level, ask{step: 1, v: 1, val: api.Far}, answer{api.Far, nil, true, api.OK})
	for _, val := range []int64{lowest, greatest} {
		for _, prog := range []int{api.Comp, api.Most} {
			checkTurn(t, g, job(prog, 0), ask{step: 0, v: 1, val: val}, answer{val, msgs(api.Msg{To: 4, V: val}), true, api.OK})
		}
	}
}

// P4.2: Rank's values, and when it sends and rests.
func TestRankSteps(t *testing.T) {
	g := fan()
	j := job(api.Rank, 0)
	for v, edges := range [][]int{{}, {4}, {0, 1, 4}, {3}, {0, 1, 3, 4}} {
		shares := func(share int64) []api.Msg {
			l := msgs()
			for _, to := range edges {
				l = append(l, api.Msg{To: to, V: share})
			}
			return l
		}
		n := int64(max(1, len(edges)))
		for step := range api.MaxSteps + 1 {
			if step == 0 {
				checkTurn(t, g, j, ask{step: 0, v: v, val: Unit}, answer{Unit, shares(1000000 / n), false, api.OK})
				checkTurn(t, g, j, ask{0, v, 77, 1234567, true}, answer{77, shares(77 / n), false, api.OK})
				continue
			}
			came, none := shares(1000000/n), shares(150000/n)
			if step >= 10 {
				came, none = nil, nil
			}
			checkTurn(t, g, j, ask{step, v, 31, 1000000, true}, answer{1000000, came, step >= 10, api.OK})
			checkTurn(t, g, j, ask{step, v, 31, 0, true}, answer{150000, none, step >= 10, api.OK})
			for _, got := range []int64{0, 1000000, greatest, lowest} {
				checkTurn(t, g, j, ask{step, v, 31, got, false}, answer{150000, none, step >= 10, api.OK})
			}
		}
	}
}

// P4.2: Rank's numbers round towards 0, and their products may be too great.
func TestRankNumbers(t *testing.T) {
	g := fan()
	j := job(api.Rank, 0)
	for _, c := range []struct{ got, val int64 }{
		{1, 150000}, {2, 150001}, {-1, 150000}, {-2, 149999}, {100, 150085}, {-100, 149915}, {101, 150085}, {-101, 149915}, {-176471, 0}, {-176472, -1},
		{108510259257115009, 92233720368697757}, {-108510259257115009, -92233720368397757},
	} {
		checkTurn(t, g, j, ask{1, 1, 9, c.got, true}, answer{c.val, msgs(api.Msg{To: 4, V: c.val}), false, api.OK})
		checkTurn(t, g, j, ask{1, 2, 9, c.got, true}, answer{c.val, msgs(api.Msg{To: 0, V: c.val / 3}, api.Msg{To: 1, V: c.val / 3}, api.Msg{To: 4, V: c.val / 3}), false, api.OK})
		checkTurn(t, g, j, ask{Rounds, 1, 9, c.got, true}, answer{c.val, nil, true, api.OK})
	}
	for _, got := range []int64{108510259257115010, greatest - 1, greatest, -108510259257115010, lowest + 1, lowest} {
		for _, step := range []int{1, Rounds - 1, Rounds, api.MaxSteps} {
			for v := range g.N {
				checkTurn(t, g, j, ask{step, v, 9, got, true}, answer{err: api.ErrOver})
			}
		}
		// At step 0 what came doesn't count.
		checkTurn(t, g, j, ask{0, 1, 9, got, true}, answer{9, msgs(api.Msg{To: 4, V: 9}), false, api.OK})
	}
	for _, val := range []int64{lowest, -5, 5, greatest} {
		checkTurn(t, g, j, ask{step: 0, v: 2, val: val}, answer{val, msgs(api.Msg{To: 0, V: val / 3}, api.Msg{To: 1, V: val / 3}, api.Msg{To: 4, V: val / 3}), false, api.OK})
		checkTurn(t, g, j, ask{step: 0, v: 3, val: val}, answer{val, msgs(api.Msg{To: 3, V: val}), false, api.OK})
	}
}

// checkAny: P4.2 of any arguments, and P4.4 and P4.5 of what is answered.
func checkAny(t *testing.T, g api.Graph, j api.Job, a ask) {
	t.Helper()
	checkTurn(t, g, j, a, wanted(g, j, a))
	got := turned(g, j, a)
	if got.err != api.OK {
		return
	}
	if j.Prog == api.Most && got.val < a.val || j.Prog < api.Most && got.val > a.val {
		t.Errorf("%v, %v: the value went the wrong way: %v", j, a, got)
	}
	edges := graph.Out(g, a.v)
	if len(got.sent) != 0 && len(got.sent) != len(edges) {
		t.Errorf("%v, %v: %d edges, sent %v", j, a, len(edges), got.sent)
	}
	for i, m := range got.sent {
		if m.To != edges[i].To {
			t.Errorf("%v, %v: edges %v, sent %v", j, a, edges, got.sent)
		}
	}
	if j.Prog != api.Rank && !a.some && a.step > 0 && (len(got.sent) != 0 || got.val != a.val) {
		t.Errorf("%v, %v: nothing came, but: %v", j, a, got)
	}
}

// anyAsk answers what Turn may be asked; at times a vertex or a step is none.
func anyAsk(r *rand.Rand, g api.Graph, l []int64) ask {
	steps := []int{0, 0, 1, 1, Rounds - 1, Rounds, api.MaxSteps, r.IntN(api.MaxSteps + 1), r.IntN(api.MaxSteps + 1)}
	a := ask{step: steps[r.IntN(len(steps))], v: r.IntN(g.N), val: l[r.IntN(len(l))], got: l[r.IntN(len(l))], some: r.IntN(3) > 0}
	switch r.IntN(40) {
	case 0:
		a.step = []int{-1, api.MaxSteps + 1, lowest, greatest}[r.IntN(4)]
	case 1:
		a.v = []int{-1, g.N, lowest, greatest}[r.IntN(4)]
	case 2:
		a.step, a.v = -1, g.N
	}
	return a
}

// P4.2, P4.4, P4.5 against numbers of any size; all kinds of answers come.
func TestAnyTurn(t *testing.T) {
	r := rand.New(rand.NewPCG(4, 1))
	l := numbers()
	seen := map[api.Errno]int{}
	for range 30000 {
		g := anyGraph(r)
		j := api.Job{Prog: 1 + r.IntN(5), Source: r.IntN(g.N), Limit: r.IntN(api.MaxSteps + 1), Parts: 1 + r.IntN(api.MaxParts)}
		if r.IntN(40) == 0 {
			j = jobs(g.N)[r.IntN(len(jobs(g.N)))]
		}
		a := anyAsk(r, g, l)
		if r.IntN(3) == 0 {
			a.v = min(a.v, j.Source)
		}
		checkAny(t, g, j, a)
		seen[turned(g, j, a).err]++
	}
	for _, e := range []api.Errno{api.OK, api.ErrArg, api.ErrNone, api.ErrOver} {
		if seen[e] == 0 {
			t.Errorf("nothing was answered by %d", e)
		}
	}
}

// P4.2, P4.4, P4.5: every vertex of one graph, every step, and all pairs of numbers at the ends.
func TestAllTurns(t *testing.T) {
	g := fan()
	for prog := 1; prog <= 5; prog++ {
		for _, source := range []int{0, 2, 4} {
			for step := -1; step <= api.MaxSteps+1; step++ {
				for v := -1; v <= g.N; v++ {
					for _, val := range []int64{lowest, -1, 0, 20, greatest - 3, greatest} {
						for _, got := range []int64{lowest, 19, 20, 21, greatest - 3, greatest - 1, greatest} {
							checkAny(t, g, job(prog, source), ask{step, v, val, got, true})
						}
						checkAny(t, g, job(prog, source), ask{step, v, val, 19, false})
					}
				}
			}
		}
	}
}

// R1: no panic, whatever the fields of a graph, a job and a question are.
func FuzzAnyTurn(f *testing.F) {
	f.Add(2, 0, 1, int64(7), 1, 0, int64(5), 1, 0, 9, 1, 0, 0, int64(0), int64(0), false)
	f.Add(2, 0, 1, int64(api.MaxWeight), 1, 1, int64(0), 5, 1, 40, 6, 1, 1, int64(api.Far), int64(7), true)
	f.Add(-1, -1, -1, int64(-1), -1, -1, int64(-1), -1, -1, -1, -1, -1, -1, int64(lowest), int64(greatest), true)
	f.Fuzz(func(t *testing.T, n, from, to int, w int64, from2, to2 int, w2 int64, prog, source, limit, parts, step, v int, val, got int64, some bool) {
		g := api.Graph{N: n, Edges: []api.Edge{{From: from, To: to, W: w}, {From: from2, To: to2, W: w2}}}
		checkAny(t, g, api.Job{Prog: prog, Source: source, Limit: limit, Parts: parts}, ask{step, v, val, got, some})
	})
}

// R1: any graph and any job, most of them wrong in many ways.
func TestAnyArguments(t *testing.T) {
	r := rand.New(rand.NewPCG(4, 2))
	nums := []int{0, 1, 2, 3, 5, 6, 40, 41, 24, 25, -1, lowest, greatest}
	pick := func() int { return nums[r.IntN(len(nums))] }
	few := func() int { return nums[r.IntN(5)] }
	for range 30000 {
		one := pick
		if r.IntN(2) == 0 {
			one = few
		}
		g := api.Graph{N: one()}
		for range r.IntN(4) {
			g.Edges = append(g.Edges, api.Edge{From: one(), To: one(), W: int64(one())})
		}
		j := api.Job{Prog: one(), Source: one(), Limit: one(), Parts: one()}
		a := ask{one(), one(), int64(pick()), int64(pick()), r.IntN(2) == 0}
		checkAny(t, g, j, a)
		Fold(one(), a.val, a.got)
		err := Check(g, j)
		if val, e := Start(g, j, a.v); err != api.OK && (val != 0 || e != err) {
			t.Errorf("Start(%v, %v, %d): %d, %d; want %d", g, j, a.v, val, e, err)
		}
	}
}

// spoil writes over a list, and over its spare room.
func spoil(l []api.Msg) {
	l = l[:cap(l)]
	for i := range l {
		l[i] = api.Msg{To: -7, V: -8}
	}
}

// R3, R4: the graph handed in is neither changed nor kept; each list is new memory, spare room too; the same is always answered.
func TestMemory(t *testing.T) {
	l := append([]api.Graph{pair(), fan()}, wrongGraphs()[10].g, wrongGraphs()[11].g)
	for _, g := range l {
		all := append(slices.Clone(g.Edges), slices.Repeat([]api.Edge{{From: 90, To: 91, W: 92}}, 9)...)
		before := slices.Clone(all)
		handed := api.Graph{N: g.N, Edges: all[:len(g.Edges)]}
		for prog := 1; prog <= 5; prog++ {
			j := job(prog, 1)
			for v := -1; v <= g.N; v++ {
				a := ask{step: 0, v: v, val: 3}
				want := wanted(g, j, a)
				Check(handed, j)
				Start(handed, j, v)
				first, second := turned(handed, j, a), turned(handed, j, a)
				spoil(first.sent)
				if !slices.Equal(all, before) {
					t.Fatalf("%v: the graph handed in was changed", g)
				}
				clear(all)
				if !sameAnswer(second, want) {
					t.Errorf("Turn(%v, %v, %v): %v; want %v", g, j, a, second, want)
				}
				copy(all, before)
				checkTurn(t, handed, j, a, want)
			}
		}
	}
}

// R3: nil and empty lists of edges are answered alike.
func TestNoEdges(t *testing.T) {
	for _, l := range [][]api.Edge{nil, {}, make([]api.Edge, 0, 9)} {
		g := api.Graph{N: 3, Edges: l}
		for prog := 1; prog <= 5; prog++ {
			if e := Check(g, job(prog, 2)); e != api.OK {
				t.Errorf("Check: %d", e)
			}
			checkTurn(t, g, job(prog, 2), ask{step: 0, v: 2, val: api.Far}, answer{api.Far, nil, prog != api.Rank, api.OK})
		}
	}
}
