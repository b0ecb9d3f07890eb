package graph

import (
	"math/big"
	"math/rand/v2"
	"regexp"
	"slices"
	"strconv"
	"strings"
	"testing"

	"haywain/api"
)

const (
	greatest = 1<<63 - 1
	lowest   = -1 << 63
)

func sameGraph(a, b api.Graph) bool {
	return a.N == b.N && slices.Equal(a.Edges, b.Edges)
}

func graphOf(n int, edges ...api.Edge) api.Graph {
	return api.Graph{N: n, Edges: edges}
}

// filled answers a graph of that many vertices with its first edges, that many, in their order.
func filled(n, edges int) api.Graph {
	g := api.Graph{N: n}
	for i := range edges {
		g.Edges = append(g.Edges, api.Edge{From: i / n, To: i % n, W: int64(i)})
	}
	return g
}

// greatestGraph answers the graph with the longest text.
func greatestGraph() api.Graph {
	g := api.Graph{N: api.MaxVerts}
	for i := range api.MaxEdges {
		g.Edges = append(g.Edges, api.Edge{From: 10 + i/14, To: 10 + i%14, W: api.MaxWeight})
	}
	return g
}

// anyGraph answers a graph that is right.
func anyGraph(r *rand.Rand) api.Graph {
	n := 1 + r.IntN(api.MaxVerts)
	weights := []int64{0, 1, 9, 10, api.MaxWeight - 1, api.MaxWeight, r.Int64N(api.MaxWeight), int64(r.IntN(100))}
	places := r.Perm(n * n)
	places = places[:r.IntN(1+min(len(places), api.MaxEdges))]
	slices.Sort(places)
	g := api.Graph{N: n}
	for _, p := range places {
		g.Edges = append(g.Edges, api.Edge{From: p / n, To: p % n, W: weights[r.IntN(len(weights))]})
	}
	return g
}

func checkCheck(t *testing.T, g api.Graph, want api.Errno) {
	t.Helper()
	if got := Check(g); got != want {
		t.Errorf("Check(%v): %d; want %d", g, got, want)
	}
}

func checkParse(t *testing.T, s string, want api.Graph, at int, err api.Errno) {
	t.Helper()
	g, line, e := Parse(s)
	if !sameGraph(g, want) || line != at || e != err {
		t.Errorf("Parse(%q): %v, %d, %d; want %v, %d, %d", s, g, line, e, want, at, err)
	}
}

func checkWrong(t *testing.T, s string, at int, err api.Errno) {
	t.Helper()
	checkParse(t, s, api.Graph{}, at, err)
}

func mustPrint(t *testing.T, g api.Graph) string {
	t.Helper()
	s, e := Print(g)
	if e != api.OK {
		t.Fatalf("Print(%v): %d", g, e)
	}
	return s
}

// The chapter's examples.
func TestExamples(t *testing.T) {
	g := graphOf(2, api.Edge{From: 0, To: 1, W: 7}, api.Edge{From: 1, To: 0, W: 5})
	checkParse(t, "graph 2\nedge 1 0 5\nedge 0 1 7", g, 0, api.OK)
	checkParse(t, "graph 2\nedge 1 0 5\nedge 0 1 7\n", g, 0, api.OK)
	if s := mustPrint(t, g); s != "graph 2\nedge 0 1 7\nedge 1 0 5\n" {
		t.Errorf("%q", s)
	}
	if l := Out(g, 1); !slices.Equal(l, []api.Edge{{From: 1, To: 0, W: 5}}) {
		t.Errorf("Out: %v", l)
	}
	checkWrong(t, "graph 2\nedge 0 2 1", 2, api.ErrNone)
	checkWrong(t, "graph 02", 1, api.ErrForm)
	checkWrong(t, "", 1, api.ErrForm)
	checkWrong(t, "graph 25", 1, api.ErrArg)
}

// P3.1: how many vertices there may be; N is asked ahead of all else.
func TestCheckN(t *testing.T) {
	for _, n := range []int{lowest, lowest + 1, -24, -1, 0, api.MaxVerts + 1, 1 << 32, 1<<32 + 1, greatest} {
		checkCheck(t, graphOf(n), api.ErrArg)
		checkCheck(t, graphOf(n, api.Edge{From: -1}), api.ErrArg)
		checkCheck(t, graphOf(n, api.Edge{}, api.Edge{}), api.ErrArg)
		checkCheck(t, graphOf(n, make([]api.Edge, api.MaxEdges+1)...), api.ErrArg)
	}
	for _, n := range []int{1, 2, 3, api.MaxVerts - 1, api.MaxVerts} {
		checkCheck(t, graphOf(n), api.OK)
		checkCheck(t, graphOf(n, api.Edge{From: n - 1, To: n - 1, W: 1}), api.OK)
	}
}

// P3.1: how many edges there may be; that is asked ahead of what they are.
func TestCheckFull(t *testing.T) {
	for _, n := range []int{9, 10, api.MaxVerts} {
		checkCheck(t, filled(n, api.MaxEdges-1), api.OK)
		checkCheck(t, filled(n, api.MaxEdges), api.OK)
		checkCheck(t, filled(n, api.MaxEdges+1), api.ErrFull)
	}
	for _, wrong := range []api.Edge{{From: -1}, {To: 24}, {W: -1}, {From: 23, To: 23}} {
		g := filled(api.MaxVerts, api.MaxEdges+1)
		g.Edges[0] = wrong
		checkCheck(t, g, api.ErrFull)
	}
	checkCheck(t, graphOf(1, make([]api.Edge, api.MaxEdges+1)...), api.ErrFull)
	checkCheck(t, graphOf(1, make([]api.Edge, 5000)...), api.ErrFull)
	checkCheck(t, graphOf(1, make([]api.Edge, api.MaxEdges)...), api.ErrTwice)
}

// P3.1: an edge by itself.
func TestCheckEdge(t *testing.T) {
	for _, n := range []int{1, 2, 5, api.MaxVerts} {
		for _, v := range []int{lowest, lowest + 1, -5, -1, n, n + 1, api.MaxVerts, 1 << 32, greatest} {
			for _, w := range []int64{-1, 0, api.MaxWeight + 1} {
				if v >= 0 && v < n {
					continue
				}
				checkCheck(t, graphOf(n, api.Edge{From: v, W: w}), api.ErrNone)
				checkCheck(t, graphOf(n, api.Edge{To: v, W: w}), api.ErrNone)
				checkCheck(t, graphOf(n, api.Edge{From: v, To: v, W: w}), api.ErrNone)
			}
		}
		for _, v := range []int{0, n / 2, n - 1} {
			for _, w := range []int64{0, 1, 1 << 31, 1 << 32, api.MaxWeight - 1, api.MaxWeight} {
				checkCheck(t, graphOf(n, api.Edge{From: v, To: n - 1 - v, W: w}), api.OK)
			}
			for _, w := range []int64{lowest, lowest + 1, -api.MaxWeight, -1, api.MaxWeight + 1, greatest} {
				checkCheck(t, graphOf(n, api.Edge{From: v, To: n - 1 - v, W: w}), api.ErrArg)
			}
		}
	}
}

// P3.1: edges rise, by From and then by To; weights don't count in it.
func TestCheckOrder(t *testing.T) {
	for _, c := range []struct {
		a, b api.Edge
		want api.Errno
	}{
		{api.Edge{From: 1, To: 1}, api.Edge{From: 1, To: 2}, api.OK},
		{api.Edge{From: 1, To: 1}, api.Edge{From: 2, To: 0}, api.OK},
		{api.Edge{From: 1, To: 1}, api.Edge{From: 2, To: 1}, api.OK},
		{api.Edge{From: 1, To: 1, W: 9}, api.Edge{From: 1, To: 2, W: 3}, api.OK},
		{api.Edge{From: 1, To: 1}, api.Edge{From: 1, To: 1}, api.ErrTwice},
		{api.Edge{From: 1, To: 1, W: 3}, api.Edge{From: 1, To: 1, W: 4}, api.ErrTwice},
		{api.Edge{From: 1, To: 1, W: 4}, api.Edge{From: 1, To: 1, W: 3}, api.ErrTwice},
		{api.Edge{From: 1, To: 1}, api.Edge{From: 1, To: 0}, api.ErrState},
		{api.Edge{From: 1, To: 1}, api.Edge{From: 0, To: 2}, api.ErrState},
		{api.Edge{From: 1, To: 1}, api.Edge{From: 0, To: 1}, api.ErrState},
		{api.Edge{From: 1, To: 1, W: 3}, api.Edge{From: 0, To: 3, W: 4}, api.ErrState},
	} {
		checkCheck(t, graphOf(4, c.a, c.b), c.want)
		checkCheck(t, graphOf(4, api.Edge{}, c.a, c.b, api.Edge{From: 3, To: 3}), c.want)
	}
	// One that was there, but not right ahead, has less than the one ahead.
	checkCheck(t, graphOf(3, api.Edge{From: 1}, api.Edge{From: 2}, api.Edge{From: 1}), api.ErrState)
}

// P3.1: of one edge the vertices come first, then the weight, then the order; of several the first wrong one is told.
func TestCheckWhichFirst(t *testing.T) {
	right, none, weight, less := api.Edge{From: 1, To: 1}, api.Edge{From: 0, To: 4}, api.Edge{From: 3, W: -1}, api.Edge{From: 0, To: 0}
	checkCheck(t, graphOf(4, right, api.Edge{From: -1, To: 1, W: -1}), api.ErrNone)
	checkCheck(t, graphOf(4, right, api.Edge{From: 1, To: -1, W: api.MaxWeight + 1}), api.ErrNone)
	checkCheck(t, graphOf(4, right, api.Edge{From: 0, To: 0, W: -1}), api.ErrArg)
	checkCheck(t, graphOf(4, right, api.Edge{From: 1, To: 1, W: api.MaxWeight + 1}), api.ErrArg)
	checkCheck(t, graphOf(4, right, none, weight), api.ErrNone)
	checkCheck(t, graphOf(4, right, weight, none), api.ErrArg)
	checkCheck(t, graphOf(4, right, right, none), api.ErrTwice)
	checkCheck(t, graphOf(4, right, less, none), api.ErrState)
	checkCheck(t, graphOf(4, right, less, weight, right, right), api.ErrState)
	checkCheck(t, graphOf(4, right, right, less), api.ErrTwice)
	checkCheck(t, graphOf(4, weight, right, right, less), api.ErrArg)
}

// P3.1: an edge at any place is asked, the first and the last of MaxEdges too.
func TestCheckEachPlace(t *testing.T) {
	for i := range api.MaxEdges {
		with := func(e api.Edge) api.Graph {
			g := filled(api.MaxVerts, api.MaxEdges)
			g.Edges[i] = e
			return g
		}
		e := filled(api.MaxVerts, api.MaxEdges).Edges[i]
		checkCheck(t, with(api.Edge{From: e.From, To: api.MaxVerts}), api.ErrNone)
		checkCheck(t, with(api.Edge{From: e.From, To: e.To, W: -1}), api.ErrArg)
		if i > 0 {
			checkCheck(t, with(filled(api.MaxVerts, api.MaxEdges).Edges[i-1]), api.ErrTwice)
		}
		if i > 1 {
			checkCheck(t, with(api.Edge{}), api.ErrState)
		}
	}
}

// wrongGraphs answers a graph of each kind of error.
func wrongGraphs() map[api.Errno]api.Graph {
	return map[api.Errno]api.Graph{
		api.ErrArg:   graphOf(2, api.Edge{}, api.Edge{From: 1, W: -1}),
		api.ErrFull:  filled(api.MaxVerts, api.MaxEdges+1),
		api.ErrNone:  graphOf(2, api.Edge{}, api.Edge{From: 1, To: 2}),
		api.ErrTwice: graphOf(2, api.Edge{}, api.Edge{W: 1}),
		api.ErrState: graphOf(2, api.Edge{}, api.Edge{From: 1}, api.Edge{To: 1}),
	}
}

// P3.2: texts, and the error of a graph that has none.
func TestPrint(t *testing.T) {
	for _, c := range []struct {
		g    api.Graph
		want string
	}{
		{graphOf(1), "graph 1\n"},
		{graphOf(24), "graph 24\n"},
		{graphOf(1, api.Edge{}), "graph 1\nedge 0 0 0\n"},
		{graphOf(10, api.Edge{From: 9, To: 9, W: 10}), "graph 10\nedge 9 9 10\n"},
		{graphOf(24, api.Edge{From: 10, To: 23, W: api.MaxWeight}, api.Edge{From: 23, To: 0, W: 100}), "graph 24\nedge 10 23 4611686018427387904\nedge 23 0 100\n"},
	} {
		if s := mustPrint(t, c.g); s != c.want {
			t.Errorf("Print(%v): %q; want %q", c.g, s, c.want)
		}
	}
	for want, g := range wrongGraphs() {
		if s, e := Print(g); s != "" || e != want {
			t.Errorf("Print(%v): %q, %d; want %d", g, s, e, want)
		}
	}
	for _, n := range []int{lowest, -1, 0, api.MaxVerts + 1} {
		if s, e := Print(graphOf(n)); s != "" || e != api.ErrArg {
			t.Errorf("Print of %d vertices: %q, %d", n, s, e)
		}
	}
	if s := mustPrint(t, greatestGraph()); len(s) != len("graph 24\n")+api.MaxEdges*len("edge 10 10 4611686018427387904\n") {
		t.Errorf("the longest text has %d bytes", len(s))
	}
}

// P3.2: the edges from a vertex.
func TestOut(t *testing.T) {
	edges := []api.Edge{{From: 0, To: 0, W: 4}, {From: 0, To: 2, W: 1}, {From: 2, To: 0, W: 9}, {From: 2, To: 1, W: 8}, {From: 2, To: 3, W: 7}}
	g := graphOf(4, edges...)
	for v, want := range map[int][]api.Edge{0: edges[:2], 1: nil, 2: edges[2:], 3: nil, 4: nil, -1: nil, lowest: nil, greatest: nil, 24: nil, 1 << 32: nil} {
		if l := Out(g, v); !slices.Equal(l, want) {
			t.Errorf("Out of %d: %v; want %v", v, l, want)
		}
	}
	for _, wrong := range wrongGraphs() {
		for v := -1; v < 4; v++ {
			if l := Out(wrong, v); len(l) != 0 {
				t.Errorf("Out(%v, %d): %v", wrong, v, l)
			}
		}
	}
	for _, n := range []int{-1, 0, 25, greatest} {
		if l := Out(graphOf(n, api.Edge{}), 0); len(l) != 0 {
			t.Errorf("Out of %d vertices: %v", n, l)
		}
	}
}

// P3.2: the edges from all vertices, one behind the other, are those of the graph.
func TestOutOfAll(t *testing.T) {
	r := rand.New(rand.NewPCG(3, 1))
	for range 300 {
		g := anyGraph(r)
		var all []api.Edge
		for v := range g.N {
			all = append(all, Out(g, v)...)
		}
		if !slices.Equal(all, g.Edges) {
			t.Errorf("%v: %v", g, all)
		}
	}
}

// P3.3: a text of more than MaxText bytes, whatever they are; one of MaxText bytes is read.
func TestParseLength(t *testing.T) {
	for _, head := range []string{"", "graph 2", "graph 2\n", "graph 2\nedge 0 1 1\n", "graph 25\n", "edge 0 1 1\n", mustPrint(t, greatestGraph())} {
		lines := 1 + strings.Count(head, "\n")
		err := api.ErrForm
		if head == "graph 25\n" {
			lines, err = 1, api.ErrArg
		} else if strings.HasPrefix(head, "edge") {
			lines = 1
		}
		for _, filler := range []string{"x", " ", "0", "\x00", "\xff"} {
			s := head + strings.Repeat(filler, api.MaxText-len(head))
			checkWrong(t, s, lines, err)
			checkWrong(t, s+filler, 0, api.ErrFull)
			checkWrong(t, strings.Repeat(s, 3), 0, api.ErrFull)
		}
	}
	over := mustPrint(t, greatestGraph()) + "edge 0 0 0\n"
	over += strings.Repeat("x", api.MaxText-len(over))
	checkWrong(t, over, api.MaxEdges+2, api.ErrFull)
	checkWrong(t, over+"x", 0, api.ErrFull)
}

// P3.3: where lines end.
func TestParseLines(t *testing.T) {
	one := graphOf(2, api.Edge{From: 0, To: 1, W: 7})
	for s, want := range map[string]api.Graph{"graph 2": graphOf(2), "graph 2\n": graphOf(2), "graph 2\nedge 0 1 7": one, "graph 2\nedge 0 1 7\n": one} {
		checkParse(t, s, want, 0, api.OK)
	}
	for s, at := range map[string]int{
		"": 1, "\n": 1, "\n\n": 1, "\ngraph 2\n": 1, "\nedge 0 1 7\n": 1, " ": 1, "\r\n": 1,
		"graph 2\n\n": 2, "graph 2\n\nedge 0 1 7\n": 2, "graph 2\nedge 0 1 7\n\n": 3, "graph 2\nedge 0 1 7\n\nedge 1 0 5\n": 3, "graph 2\nedge 0 1 7\n\n\n": 3,
		"graph 2\n ": 2, "graph 2\n\x00": 2, "graph 2\nedge 0 1 7\n ": 3,
		"graph 2\r\nedge 0 1 7\r\n": 1, "graph 2\nedge 0 1 7\r\n": 2, "graph 2\redge 0 1 7": 1, "graph 2edge 0 1 7": 1, "graph 2\nedge 0 1 7edge 1 0 5": 2, "graph 2\nedge 0 1 7 edge 1 0 5": 2,
	} {
		checkWrong(t, s, at, api.ErrForm)
	}
}

// P3.3: first lines that aren't as told.
func TestParseHead(t *testing.T) {
	for n := 1; n <= api.MaxVerts; n++ {
		checkParse(t, "graph "+strconv.Itoa(n), graphOf(n), 0, api.OK)
	}
	for _, n := range []string{"0", "25", "26", "99", "100", "4294967296", "4294967297", "1000000000000000000", "9223372036854775807", "9223372036854775806"} {
		checkWrong(t, "graph "+n, 1, api.ErrArg)
		checkWrong(t, "graph "+n+"\n\nedge", 1, api.ErrArg)
		checkWrong(t, "graph "+n+"\nedge 0 0 0\n", 1, api.ErrArg)
	}
	for _, s := range []string{
		"graph", "graph ", "graph2", "graph  2", " graph 2", "graph 2 ", "graph 2 3", "graph 2  ", "graph\t2", "graph\n2", "graph -1", "graph +2", "graph -0", "graph 1_0", "graph 2.0", "graph 2e0", "graph 0x2", "graph two", "graph 2x", "graph x2", "graph \u0662", "graph \uff12",
		"Graph 2", "GRAPH 2", "graphs 2", "grap 2", "edge 2", "edge 0 1 7", "graph 0 1 7", "2", "graph 02", "graph 00", "graph 01", "graph 024", "graph 000000000000000000000002",
		"graph 9223372036854775808", "graph 9999999999999999999", "graph 10000000000000000000", "graph 18446744073709551617", "graph 18446744073709551618", "graph 36893488147419103234", "graph /", "graph :",
	} {
		checkWrong(t, s, 1, api.ErrForm)
		checkWrong(t, s+"\ngraph 2\n", 1, api.ErrForm)
	}
}

// P3.3: lines of edges that aren't as told.
func TestParseEdgeForm(t *testing.T) {
	for _, s := range []string{
		"edge", "edge ", "edge 0", "edge 0 1", "edge 0 1 ", "edge 0 1 7 ", "edge 0 1 7 5", "edge  0 1 7", "edge 0  1 7", "edge 0 1  7", " edge 0 1 7", "edge0 1 7", "edge 01 7", "edge 0 17", "edge 0\t1 7", "edge 0 1\t7", "edge 0,1,7", "edge   ", "edge    ",
		"Edge 0 1 7", "EDGE 0 1 7", "edges 0 1 7", "edg 0 1 7", "graph 0 1 7", "graph 2", "graph 3", "graph 25", "0 1 7",
		"edge -1 1 7", "edge 0 -1 7", "edge 0 1 -7", "edge -0 1 7", "edge +0 1 7", "edge 0 +1 7", "edge 0 1 +7", "edge 00 1 7", "edge 0 01 7", "edge 0 1 07", "edge 0 1 00", "edge x 1 7", "edge 0 x 7", "edge 0 1 x", "edge 0 1 7x", "edge 0 1 7.0", "edge 0 1 1_0", "edge 0 1 \u0667", "edge / 1 7", "edge 0 : 7", "edge 0 1 /",
	} {
		checkWrong(t, "graph 2\n"+s, 2, api.ErrForm)
		checkWrong(t, "graph 2\n"+s+"\n", 2, api.ErrForm)
		checkWrong(t, "graph 2\nedge 1 0 5\n"+s+"\nedge 1 0 5\n", 3, api.ErrForm)
	}
}

// P3.3: numbers of 19 and 20 digits, and around 2^62 and 2^63, at each place of an edge.
func TestParseNumbers(t *testing.T) {
	weights := map[string]api.Errno{
		"0": api.OK, "1": api.OK, "9": api.OK, "10": api.OK, "999999999999999999": api.OK, "1000000000000000000": api.OK, "4611686018427387903": api.OK, "4611686018427387904": api.OK,
		"4611686018427387905": api.ErrArg, "9223372036854775806": api.ErrArg, "9223372036854775807": api.ErrArg,
		"9223372036854775808": api.ErrForm, "9223372036854775809": api.ErrForm, "9999999999999999999": api.ErrForm, "10000000000000000000": api.ErrForm, "18446744073709551616": api.ErrForm, "18446744073709551617": api.ErrForm, "99999999999999999999": api.ErrForm, "00000000000000000001": api.ErrForm, "0000000000000000001": api.ErrForm,
		"100000000000000000000000000000000000000": api.ErrForm, "340282366920938463463374607431768211457": api.ErrForm,
	}
	for digits, err := range weights {
		s := "graph 2\nedge 0 1 " + digits
		if err != api.OK {
			checkWrong(t, s, 2, err)
			continue
		}
		w, _ := strconv.ParseInt(digits, 10, 64)
		checkParse(t, s, graphOf(2, api.Edge{From: 0, To: 1, W: w}), 0, api.OK)
	}
	for digits, err := range weights {
		want := api.ErrNone
		if err == api.ErrForm {
			want = api.ErrForm
		} else if len(digits) == 1 && digits != "9" {
			continue
		}
		checkWrong(t, "graph 2\nedge "+digits+" 0 0", 2, want)
		checkWrong(t, "graph 2\nedge 0 "+digits+" 0", 2, want)
	}
	checkWrong(t, "graph 2\nedge 4294967296 0 0", 2, api.ErrNone)
	checkWrong(t, "graph 2\nedge 0 4294967297 0", 2, api.ErrNone)
}

// P3.3: vertices that are none, or the last one.
func TestParseVertices(t *testing.T) {
	for n := 1; n <= api.MaxVerts; n++ {
		head, last, none := "graph "+strconv.Itoa(n)+"\nedge ", strconv.Itoa(n-1), strconv.Itoa(n)
		checkParse(t, head+last+" "+last+" 3", graphOf(n, api.Edge{From: n - 1, To: n - 1, W: 3}), 0, api.OK)
		checkWrong(t, head+none+" "+last+" 3", 2, api.ErrNone)
		checkWrong(t, head+last+" "+none+" 3", 2, api.ErrNone)
	}
}

// P3.3: which error of a line is told: its form, then ErrFull, ErrNone, ErrArg, ErrTwice.
func TestParseWhichFirst(t *testing.T) {
	for s, err := range map[string]api.Errno{
		"edge 9 1 07": api.ErrForm, "edge 9 1 9223372036854775808": api.ErrForm, "edge 0 1 7 ": api.ErrForm,
		"edge 9 1 9223372036854775807": api.ErrNone, "edge 1 9 4611686018427387905": api.ErrNone, "edge 2 0 7": api.ErrNone,
		"edge 0 1 4611686018427387905": api.ErrArg, "edge 1 1 9223372036854775807": api.ErrArg,
		"edge 0 1 7": api.ErrTwice, "edge 0 1 0": api.ErrTwice, "edge 0 1 4611686018427387904": api.ErrTwice,
	} {
		checkWrong(t, "graph 2\nedge 0 1 7\n"+s, 3, err)
		// Between them stands another edge, and the one that is there already was ahead.
		checkWrong(t, "graph 2\nedge 0 1 7\nedge 0 0 1\n"+s+"\n", 4, err)
	}
	full := mustPrint(t, filled(api.MaxVerts, api.MaxEdges))
	for s, err := range map[string]api.Errno{
		"edge 0 1": api.ErrForm, "": api.ErrForm, "graph 24": api.ErrForm, "edge 9 1 9223372036854775808": api.ErrForm,
		"edge 23 23 1": api.ErrFull, "edge 24 0 1": api.ErrFull, "edge 23 23 4611686018427387905": api.ErrFull, "edge 0 0 0": api.ErrFull, "edge 0 0 9223372036854775807": api.ErrFull,
	} {
		checkWrong(t, full+s+"\n", api.MaxEdges+2, err)
	}
	checkParse(t, full, filled(api.MaxVerts, api.MaxEdges), 0, api.OK)
	checkWrong(t, full+"edge 23 23 1", api.MaxEdges+2, api.ErrFull)
}

// P3.3: of several wrong lines the first one is told.
func TestParseWhichLine(t *testing.T) {
	wrong := []struct {
		line string
		err  api.Errno
	}{{"", api.ErrForm}, {"edge 0 1", api.ErrForm}, {"graph 3", api.ErrForm}, {"edge 0 3 1", api.ErrNone}, {"edge 0 2 4611686018427387905", api.ErrArg}, {"edge 0 1 2", api.ErrTwice}}
	for _, a := range wrong {
		for _, b := range wrong {
			checkWrong(t, "graph 3\nedge 0 1 1\n"+a.line+"\n"+b.line+"\n", 3, a.err)
			checkWrong(t, "graph 3\nedge 0 1 1\nedge 2 2 0\n"+a.line+"\nedge 1 1 1\n"+b.line+"\n", 4, a.err)
			checkWrong(t, "graph 0\n"+b.line+"\n", 1, api.ErrArg)
			checkWrong(t, "graph 00\n"+b.line+"\n", 1, api.ErrForm)
		}
	}
}

var (
	headForm = regexp.MustCompile(`\Agraph (0|[1-9][0-9]{0,18})\z`)
	edgeForm = regexp.MustCompile(`\Aedge (0|[1-9][0-9]{0,18}) (0|[1-9][0-9]{0,18}) (0|[1-9][0-9]{0,18})\z`)
)

// readBig answers the numbers of a line; false: one of them is over 2^63 - 1, or the line isn't of that form.
func readBig(form *regexp.Regexp, line string) ([]int64, bool) {
	words := form.FindStringSubmatch(line)
	if words == nil {
		return nil, false
	}
	var nums []int64
	for _, w := range words[1:] {
		n, ok := new(big.Int).SetString(w, 10)
		if !ok || !n.IsInt64() {
			return nil, false
		}
		nums = append(nums, n.Int64())
	}
	return nums, true
}

// parsed is what the document says of Parse, by other means.
func parsed(s string) (api.Graph, int, api.Errno) {
	if len(s) > api.MaxText {
		return api.Graph{}, 0, api.ErrFull
	}
	lines := strings.Split(strings.TrimSuffix(s, "\n"), "\n")
	head, ok := readBig(headForm, lines[0])
	if !ok {
		return api.Graph{}, 1, api.ErrForm
	}
	if head[0] < 1 || head[0] > 24 {
		return api.Graph{}, 1, api.ErrArg
	}
	weights := map[[2]int64]int64{}
	for i, line := range lines[1:] {
		if err := parsedEdge(weights, head[0], line); err != api.OK {
			return api.Graph{}, i + 2, err
		}
	}
	g := api.Graph{N: int(head[0])}
	for from := range head[0] {
		for to := range head[0] {
			if w, ok := weights[[2]int64{from, to}]; ok {
				g.Edges = append(g.Edges, api.Edge{From: int(from), To: int(to), W: w})
			}
		}
	}
	return g, 0, api.OK
}

func parsedEdge(weights map[[2]int64]int64, n int64, line string) api.Errno {
	nums, ok := readBig(edgeForm, line)
	if !ok {
		return api.ErrForm
	}
	_, there := weights[[2]int64{nums[0], nums[1]}]
	switch {
	case len(weights) == 80:
		return api.ErrFull
	case nums[0] >= n || nums[1] >= n:
		return api.ErrNone
	case nums[2] > 1<<62:
		return api.ErrArg
	case there:
		return api.ErrTwice
	}
	weights[[2]int64{nums[0], nums[1]}] = nums[2]
	return api.OK
}

// checkAny: P3.3 of any text, and P3.6 of what it is read as.
func checkAny(t *testing.T, s string) {
	t.Helper()
	want, at, err := parsed(s)
	checkParse(t, s, want, at, err)
	g, _, e := Parse(s)
	if e != api.OK {
		return
	}
	checkCheck(t, g, api.OK)
	if text := mustPrint(t, g); len(text) <= api.MaxText {
		checkParse(t, text, g, 0, api.OK)
	}
}

// R1, P3.3: each byte of a text made any other, left out, or put in.
func TestEachByteChanged(t *testing.T) {
	s := "graph 12\nedge 10 0 305\nedge 1 11 4611686018427387904\nedge 0 0 0\n"
	checkAny(t, s)
	for i := range len(s) + 1 {
		for b := range 256 {
			checkAny(t, s[:i]+string([]byte{byte(b)})+s[i:])
			if i < len(s) {
				checkAny(t, s[:i]+string([]byte{byte(b)})+s[i+1:])
			}
		}
		checkAny(t, s[:i])
		checkAny(t, s[i:])
		for j := i; j <= len(s); j++ {
			checkAny(t, s[:i]+s[j:])
		}
	}
}

// anyText answers a text that may be right, and whose lines are wrong in many ways at times.
func anyText(r *rand.Rand) string {
	pick := func(l ...string) string { return l[r.IntN(len(l))] }
	few := func(l ...string) string {
		if r.IntN(30) == 0 {
			return pick(l...)
		}
		return l[0]
	}
	vertex := func() string {
		return few(strconv.Itoa(r.IntN(6)), "24", "00", "-1", "", "x", "9223372036854775807", "9223372036854775808")
	}
	weight := func() string {
		return few(strconv.Itoa(r.IntN(120)), "4611686018427387904", "4611686018427387905", "0", "01", "9999999999999999999", "99999999999999999999", "-3")
	}
	s := few("graph ", "edge ", "graph", "") + few(pick("5", "6", "24"), "0", "1", "25", "06", "x", "") + few("\n", "", "\n\n", " \n")
	for range r.IntN(9) {
		s += few("edge ", "graph ", "edge  ", "edge", " ") + vertex() + few(" ", "  ", "") + vertex() + few(" ", "  ", "\t") + weight() + few("\n", "\n\n", " \n", "\r\n", "")
	}
	if r.IntN(3) == 0 {
		s = strings.TrimSuffix(s, "\n")
	}
	return s
}

// R1, P3.3, P3.6: texts of all kinds are answered as the document says; all kinds of answers come.
func TestAnyText(t *testing.T) {
	r := rand.New(rand.NewPCG(3, 3))
	seen := map[api.Errno]int{}
	for range 20000 {
		s := anyText(r)
		checkAny(t, s)
		_, _, e := Parse(s)
		seen[e]++
	}
	for _, e := range []api.Errno{api.OK, api.ErrForm, api.ErrArg, api.ErrNone, api.ErrTwice} {
		if seen[e] == 0 {
			t.Errorf("no text was answered by %d", e)
		}
	}
	for range 5000 {
		b := make([]byte, r.IntN(60))
		for i := range b {
			b[i] = byte(r.Uint32())
		}
		checkAny(t, string(b))
	}
}

func FuzzAnyText(f *testing.F) {
	for _, s := range []string{"", "\n", "graph 2", "graph 2\nedge 0 1 7\nedge 1 0 5\n", "graph 24\nedge 23 0 4611686018427387904", "graph 3\n\n"} {
		f.Add(s)
	}
	f.Fuzz(checkAny)
}

// P3.4: Parse of Print is the graph.
func TestBack(t *testing.T) {
	r := rand.New(rand.NewPCG(3, 4))
	l := []api.Graph{graphOf(1), graphOf(api.MaxVerts), graphOf(1, api.Edge{W: api.MaxWeight}), filled(9, api.MaxEdges), filled(api.MaxVerts, api.MaxEdges), greatestGraph()}
	for range 500 {
		l = append(l, anyGraph(r))
	}
	for _, g := range l {
		checkParse(t, mustPrint(t, g), g, 0, api.OK)
	}
}

// P3.5: the lines of edges in any other order are read as the same graph.
func TestAnyOrder(t *testing.T) {
	r := rand.New(rand.NewPCG(3, 5))
	l := []api.Graph{filled(9, api.MaxEdges), greatestGraph()}
	for range 300 {
		l = append(l, anyGraph(r))
	}
	for _, g := range l {
		lines := strings.SplitAfter(mustPrint(t, g), "\n")
		edges := lines[1 : len(lines)-1]
		slices.Reverse(edges)
		checkParse(t, strings.Join(lines, ""), g, 0, api.OK)
		for range 3 {
			r.Shuffle(len(edges), func(i, j int) { edges[i], edges[j] = edges[j], edges[i] })
			checkParse(t, strings.Join(lines, ""), g, 0, api.OK)
		}
	}
}

// P3.5: all orders of four lines.
func TestAllOrders(t *testing.T) {
	lines := []string{"edge 0 0 4\n", "edge 0 2 3\n", "edge 1 0 2\n", "edge 2 1 1\n"}
	want := graphOf(3, api.Edge{W: 4}, api.Edge{To: 2, W: 3}, api.Edge{From: 1, W: 2}, api.Edge{From: 2, To: 1, W: 1})
	for i := range 256 {
		a, b, c, d := i&3, i>>2&3, i>>4&3, i>>6
		if a != b && a != c && a != d && b != c && b != d && c != d {
			checkParse(t, "graph 3\n"+lines[a]+lines[b]+lines[c]+lines[d], want, 0, api.OK)
		}
	}
}

// R1: any graph is answered; Print and Out agree with Check.
func TestAnyGraph(t *testing.T) {
	r := rand.New(rand.NewPCG(3, 6))
	vertices := []int{0, 1, 2, 3, 4, 23, 24, -1, lowest, greatest}
	weights := []int64{0, 1, 2, 3, api.MaxWeight, api.MaxWeight + 1, -1, lowest, greatest}
	for range 20000 {
		g := api.Graph{N: vertices[r.IntN(len(vertices))]}
		for range r.IntN(4) {
			g.Edges = append(g.Edges, api.Edge{From: vertices[r.IntN(len(vertices))], To: vertices[r.IntN(len(vertices))], W: weights[r.IntN(len(weights))]})
		}
		s, e := Print(g)
		if e != Check(g) || (s == "") != (e != api.OK) {
			t.Errorf("%v: Check %d; Print %q, %d", g, Check(g), s, e)
		}
		v := vertices[r.IntN(len(vertices))]
		want := slices.DeleteFunc(slices.Clone(g.Edges), func(x api.Edge) bool { return e != api.OK || x.From != v })
		if l := Out(g, v); !slices.Equal(l, want) {
			t.Errorf("Out(%v, %d): %v; want %v", g, v, l, want)
		}
	}
}

// roomy answers a graph whose list has spare room, and all of that list's memory.
func roomy(g api.Graph) (api.Graph, []api.Edge) {
	all := append(slices.Clone(g.Edges), slices.Repeat([]api.Edge{{From: 90, To: 91, W: 92}}, 9)...)
	return api.Graph{N: g.N, Edges: all[:len(g.Edges)]}, all
}

// spoil writes over a list, and over its spare room.
func spoil(l []api.Edge) {
	l = l[:cap(l)]
	for i := range l {
		l[i] = api.Edge{From: -7, To: -8, W: -9}
	}
}

// R3: what is handed in is neither changed nor kept, and Out's list shares nothing with it.
func TestMemory(t *testing.T) {
	whole := graphOf(2, api.Edge{W: 1}, api.Edge{To: 1, W: 2}) // all edges from one vertex, which a part of the list would do for
	l := []api.Graph{graphOf(1), whole, filled(3, 9), filled(5, 7), greatestGraph()}
	for _, g := range wrongGraphs() {
		l = append(l, g)
	}
	for _, g := range l {
		handed, all := roomy(g)
		before := slices.Clone(all)
		Check(handed)
		Print(handed)
		for v := -1; v <= g.N; v++ {
			want := slices.Clone(Out(g, v))
			out, again := Out(handed, v), Out(handed, v)
			spoil(out)
			if !slices.Equal(all, before) {
				t.Fatalf("%v: the list handed in was changed", g)
			}
			spoil(all)
			if !slices.Equal(again, want) {
				t.Errorf("Out(%v, %d) shares memory", g, v)
			}
			copy(all, before)
		}
	}
}

// R3, R4: each graph that Parse answers is memory of its own, and the same text is always read alike.
func TestMemoryOfParse(t *testing.T) {
	s := mustPrint(t, filled(api.MaxVerts, 30))
	g, _, _ := Parse(s)
	again, _, _ := Parse(s)
	spoil(g.Edges)
	if !sameGraph(again, filled(api.MaxVerts, 30)) {
		t.Errorf("%v", again)
	}
	checkParse(t, s, filled(api.MaxVerts, 30), 0, api.OK)
}

// R3: nil and empty lists are answered alike.
func TestNoEdges(t *testing.T) {
	for _, l := range [][]api.Edge{nil, {}, make([]api.Edge, 0, 9)} {
		g := api.Graph{N: 3, Edges: l}
		checkCheck(t, g, api.OK)
		if s := mustPrint(t, g); s != "graph 3\n" {
			t.Errorf("%q", s)
		}
		if out := Out(g, 0); len(out) != 0 {
			t.Errorf("%v", out)
		}
	}
}
