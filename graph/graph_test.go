package graph_test

import (
	"math"
	"math/rand"
	"slices"
	"testing"

	"billet/api"
	"billet/graph"
)

// edge is short for tables.
func edge(from, to, limit int) api.Edge {
	return api.Edge{From: from, To: to, Cap: limit}
}

// line is the chapter's example.
var line = api.Net{N: 3, Edges: []api.Edge{edge(0, 1, 3), edge(1, 2, 2)}}

// right is the chapter's definition of a valid network.
func right(n api.Net) bool {
	if n.N < 2 || n.N > 64 || len(n.Edges) > 256 {
		return false
	}
	good := 0
	for _, e := range n.Edges {
		if 0 <= e.From && e.From <= n.N-1 && 0 <= e.To && e.To <= n.N-1 && e.From != e.To && 0 <= e.Cap && e.Cap <= 1000 {
			good++
		}
	}
	return good == len(n.Edges)
}

// fits is the chapter's definition of a flow that fits.
func fits(n api.Net, flow []int) bool {
	if !right(n) || len(flow) != len(n.Edges) {
		return false
	}
	good := 0
	for i, f := range flow {
		if 0 <= f && f <= n.Edges[i].Cap {
			good++
		}
	}
	return good == len(flow)
}

// sums are the flows of the edges that leave v, and of those that enter it.
func sums(n api.Net, flow []int, v int) (out, in int) {
	for i, e := range n.Edges {
		if e.From == v {
			out += flow[i]
		}
		if e.To == v {
			in += flow[i]
		}
	}
	return out, in
}

// good is the chapter's definition of Good.
func good(n api.Net, flow []int, s, t int) bool {
	if !fits(n, flow) || s < 0 || s >= n.N || t < 0 || t >= n.N || s == t {
		return false
	}
	for v := range n.N {
		if out, in := sums(n, flow, v); out != in && v != s && v != t {
			return false
		}
	}
	return true
}

// value is the chapter's definition of Value.
func value(n api.Net, flow []int, s int) int {
	if !fits(n, flow) || s < 0 || s >= n.N {
		return 0
	}
	out, in := sums(n, flow, s)
	return out - in
}

// residual is the chapter's definition of residual capacity from u to v.
func residual(n api.Net, flow []int, u, v int) bool {
	for i, e := range n.Edges {
		if e.From == u && e.To == v && flow[i] < e.Cap || e.From == v && e.To == u && flow[i] > 0 {
			return true
		}
	}
	return false
}

// reach is the chapter's definition of Reach: what is reachable is worked off, a vertex at a time.
func reach(n api.Net, flow []int, s int) []bool {
	if !fits(n, flow) || s < 0 || s >= n.N {
		return nil
	}
	reached := make([]bool, n.N)
	reached[s] = true
	for open := []int{s}; len(open) > 0; {
		u := open[0]
		open = open[1:]
		for v := range n.N {
			if !reached[v] && residual(n, flow, u, v) {
				reached[v] = true
				open = append(open, v)
			}
		}
	}
	return reached
}

// cut is the chapter's definition of Cut.
func cut(n api.Net, side []bool) int {
	if !right(n) || len(side) != n.N {
		return 0
	}
	total := 0
	for u := range side {
		for v := range side {
			for _, e := range n.Edges {
				if side[u] && !side[v] && e.From == u && e.To == v {
					total += e.Cap
				}
			}
		}
	}
	return total
}

// checkFlow holds Right, Good, Value and Reach against the definitions, for all vertices up to beyond the last one if the network is small.
func checkFlow(t *testing.T, n api.Net, flow []int) {
	t.Helper()
	if got := graph.Right(n); got != right(n) {
		t.Errorf("Right of %v is %v", n, got)
	}
	for s := -1; s <= min(n.N, 5); s++ {
		if got, want := graph.Value(n, flow, s), value(n, flow, s); got != want {
			t.Errorf("Value of %v, %v, %d is %d, not %d", n, flow, s, got, want)
		}
		if got, want := graph.Reach(n, flow, s), reach(n, flow, s); !slices.Equal(got, want) {
			t.Errorf("Reach of %v, %v, %d is %v, not %v", n, flow, s, got, want)
		}
		for to := -1; to <= min(n.N, 5); to++ {
			if got, want := graph.Good(n, flow, s, to), good(n, flow, s, to); got != want {
				t.Errorf("Good of %v, %v, %d, %d is %v, not %v", n, flow, s, to, got, want)
			}
		}
	}
}

// checkCut holds Cut against the definition.
func checkCut(t *testing.T, n api.Net, side []bool) {
	t.Helper()
	if got, want := graph.Cut(n, side), cut(n, side); got != want {
		t.Errorf("Cut of %v, %v is %d, not %d", n, side, got, want)
	}
}

// lists are all that have so many elements, each from low to high.
func lists(long, low, high int) [][]int {
	all := [][]int{nil}
	for range long {
		var longer [][]int
		for _, list := range all {
			for x := low; x <= high; x++ {
				longer = append(longer, append(slices.Clone(list), x))
			}
		}
		all = longer
	}
	return all
}

// sides are all sets of so many vertices.
func sides(long int) [][]bool {
	var all [][]bool
	for _, list := range lists(long, 0, 1) {
		var side []bool
		for _, x := range list {
			side = append(side, x == 1)
		}
		all = append(all, side)
	}
	return all
}

// randomNet is valid, and has so many vertices and edges; some of the edges lie beside each other, or against each other.
func randomNet(random *rand.Rand, vertices, many, most int) api.Net {
	n := api.Net{N: vertices}
	for range many {
		from := random.Intn(vertices)
		to := (from + 1 + random.Intn(vertices-1)) % vertices
		n.Edges = append(n.Edges, edge(from, to, random.Intn(most+1)))
	}
	return n
}

// randomFlow fits; many edges are empty or full.
func randomFlow(random *rand.Rand, n api.Net) []int {
	flow := make([]int, len(n.Edges))
	for i, e := range n.Edges {
		flow[i] = []int{0, e.Cap, random.Intn(e.Cap + 1)}[random.Intn(3)]
	}
	return flow
}

// randomGoodFlow leads from s to t: it is made of ways that start at s, and of rings, as far as there is room.
func randomGoodFlow(random *rand.Rand, n api.Net, s, t int) []int {
	flow := make([]int, len(n.Edges))
	for range 30 {
		at, end := s, t
		if random.Intn(3) == 0 {
			at = random.Intn(n.N)
			end = at
		}
		addWay(random, n, flow, at, end)
	}
	return flow
}

// addWay adds 1 to each edge of a random way from at to end, if it finds one.
func addWay(random *rand.Rand, n api.Net, flow []int, at, end int) {
	next := slices.Clone(flow)
	for range 3 * n.N {
		var free []int
		for i, e := range n.Edges {
			if e.From == at && next[i] < e.Cap {
				free = append(free, i)
			}
		}
		if len(free) == 0 {
			return
		}
		i := free[random.Intn(len(free))]
		next[i]++
		at = n.Edges[i].To
		if at == end {
			copy(flow, next)
			return
		}
	}
}

// G1, G2, the sections Reach and Cut: the chapter's example.
func TestTheExample(t *testing.T) {
	flow := []int{2, 2}
	if !graph.Right(line) || !graph.Good(line, flow, 0, 2) || graph.Value(line, flow, 0) != 2 {
		t.Error(graph.Right(line), graph.Good(line, flow, 0, 2), graph.Value(line, flow, 0))
	}
	if side := graph.Reach(line, flow, 0); !slices.Equal(side, []bool{true, true, false}) || graph.Cut(line, side) != 2 {
		t.Error(side, graph.Cut(line, side))
	}
}

// rightNets are at the edges of the definition.
func rightNets() []api.Net {
	return []api.Net{
		{N: 2}, {N: 64}, {N: 2, Edges: []api.Edge{}}, line,
		{N: 2, Edges: []api.Edge{edge(0, 1, 0)}}, {N: 2, Edges: []api.Edge{edge(1, 0, 1000)}}, {N: 64, Edges: []api.Edge{edge(0, 63, 1), edge(63, 0, 1)}},
		{N: 2, Edges: []api.Edge{edge(0, 1, 1), edge(0, 1, 1), edge(1, 0, 2)}},
		{N: 2, Edges: slices.Repeat([]api.Edge{edge(0, 1, 1000)}, 256)},
	}
}

// wrongNets are just beyond those edges, or far beyond; the wrong edge stands first, between others, or last.
func wrongNets() []api.Net {
	all := []api.Net{
		{}, {N: 1}, {N: 65}, {N: -1}, {N: -2}, {N: math.MinInt}, {N: math.MaxInt}, {N: 1 << 32}, {N: 1<<32 + 2}, {N: 2 - 1<<32},
		{N: 1, Edges: []api.Edge{edge(0, 0, 1)}}, {N: 65, Edges: []api.Edge{edge(0, 64, 1)}}, {N: math.MaxInt, Edges: []api.Edge{edge(0, math.MaxInt-1, 1)}},
		{N: 2, Edges: slices.Repeat([]api.Edge{edge(0, 1, 1)}, 257)}, {N: 2, Edges: slices.Repeat([]api.Edge{edge(0, 1, 0)}, 512)}, {N: 64, Edges: make([]api.Edge, 1<<22)},
	}
	ok := edge(2, 1, 5)
	for _, e := range []api.Edge{
		edge(0, 0, 1), edge(2, 2, 0), edge(-1, 0, 1), edge(0, -1, 1), edge(3, 0, 1), edge(0, 3, 1), edge(64, 0, 1), edge(0, 64, 1), edge(-1, 3, 1), edge(3, -1, 1), edge(-1, -1, 1), edge(3, 3, 1),
		edge(math.MinInt, 0, 1), edge(0, math.MinInt, 1), edge(math.MaxInt, 0, 1), edge(0, math.MaxInt, 1), edge(1<<32, 1, 1), edge(1, 1<<32, 1),
		edge(0, 1, -1), edge(0, 1, 1001), edge(0, 1, math.MinInt), edge(0, 1, math.MaxInt), edge(0, 1, 1<<32),
	} {
		all = append(all, api.Net{N: 3, Edges: []api.Edge{e}}, api.Net{N: 3, Edges: []api.Edge{e, ok, ok}}, api.Net{N: 3, Edges: []api.Edge{ok, e, ok}}, api.Net{N: 3, Edges: []api.Edge{ok, ok, e}})
	}
	return all
}

// G1: networks that are just valid.
func TestRightOfRightNets(t *testing.T) {
	for i, n := range rightNets() {
		if !graph.Right(n) || !graph.Good(n, make([]int, len(n.Edges)), n.N-1, 0) {
			t.Errorf("%d of the right ones, with %d vertices: %v", i, n.N, graph.Right(n))
		}
	}
}

// G1, G2, the sections Reach and Cut, R1: networks that are not valid, with flows and sides of every promising length.
func TestAnswersOfWrongNets(t *testing.T) {
	for i, n := range wrongNets() {
		full := make([]int, len(n.Edges))
		for j, e := range n.Edges {
			full[j] = e.Cap
		}
		for _, flow := range [][]int{nil, full, make([]int, len(n.Edges))} {
			for _, s := range []int{-1, 0, 1, 2, math.MinInt, math.MaxInt, n.N, n.N - 1} {
				if graph.Right(n) || graph.Good(n, flow, s, 0) || graph.Good(n, flow, 0, s) || graph.Value(n, flow, s) != 0 || len(graph.Reach(n, flow, s)) != 0 {
					t.Errorf("%d of the wrong ones, with %d vertices, at %d", i, n.N, s)
				}
			}
		}
		for _, long := range []int{0, 1, 2, 3, 64, 65} {
			side := make([]bool, long)
			for j := range side {
				side[j] = j%2 == 0
			}
			if got := graph.Cut(n, side); got != 0 {
				t.Errorf("%d of the wrong ones, with %d vertices: Cut of %d is %d", i, n.N, long, got)
			}
		}
	}
}

// G1: a flow that fits but doesn't add up at a vertex, or only at s and t; one that adds up but doesn't fit; vertices that are none, or the same.
func TestGoodTells(t *testing.T) {
	diamond := api.Net{N: 4, Edges: []api.Edge{edge(0, 1, 3), edge(0, 2, 2), edge(1, 3, 2), edge(2, 3, 2), edge(1, 2, 1)}}
	ring := api.Net{N: 3, Edges: []api.Edge{edge(0, 1, 2), edge(1, 2, 2), edge(2, 0, 2)}}
	for _, c := range []struct {
		n    api.Net
		flow []int
		s, t int
		want bool
	}{
		{line, []int{0, 0}, 0, 2, true}, {line, []int{2, 2}, 0, 2, true}, {line, []int{2, 2}, 2, 0, true}, {line, []int{1, 1}, 0, 2, true},
		{line, []int{2, 1}, 0, 2, false}, {line, []int{1, 2}, 0, 2, false}, {line, []int{3, 3}, 0, 2, false}, {line, []int{-1, -1}, 0, 2, false}, {line, []int{math.MinInt, math.MinInt}, 0, 2, false}, {line, []int{math.MaxInt, math.MaxInt}, 0, 2, false},
		{line, []int{3, 0}, 0, 1, true}, {line, []int{3, 1}, 0, 1, false}, {line, []int{4, 0}, 0, 1, false}, {line, []int{0, 2}, 1, 2, true}, {line, []int{0, 2}, 2, 1, true}, {line, []int{0, 2}, 0, 2, false}, {line, []int{0, 3}, 1, 2, false},
		{line, []int{2}, 0, 2, false}, {line, []int{2, 2, 2}, 0, 2, false}, {line, []int{2, 2, 0}, 0, 2, false}, {line, []int{}, 0, 2, false}, {line, nil, 0, 2, false},
		{line, []int{0, 0}, 0, 0, false}, {line, []int{0, 0}, 2, 2, false}, {line, []int{0, 0}, -1, 2, false}, {line, []int{0, 0}, 0, -1, false}, {line, []int{0, 0}, 0, 3, false}, {line, []int{0, 0}, 3, 0, false}, {line, []int{0, 0}, -1, -2, false}, {line, []int{0, 0}, 3, 4, false}, {line, []int{0, 0}, math.MinInt, math.MaxInt, false},
		{diamond, []int{3, 1, 2, 2, 1}, 0, 3, true}, {diamond, []int{3, 1, 2, 2, 0}, 0, 3, false}, {diamond, []int{3, 2, 2, 2, 1}, 0, 3, false}, {diamond, []int{1, 0, 0, 0, 1}, 0, 2, true}, {diamond, []int{1, 0, 0, 0, 1}, 0, 3, false},
		// What goes round is lost nowhere, whichever vertices are asked for.
		{ring, []int{2, 2, 2}, 0, 1, true}, {ring, []int{1, 1, 1}, 2, 1, true}, {ring, []int{2, 2, 1}, 0, 1, false}, {ring, []int{2, 2, 1}, 0, 2, true}, {ring, []int{2, 2, 1}, 2, 0, true},
		{api.Net{N: 2}, nil, 0, 1, true}, {api.Net{N: 2}, []int{}, 1, 0, true}, {api.Net{N: 2}, []int{0}, 0, 1, false},
	} {
		if got := graph.Good(c.n, c.flow, c.s, c.t); got != c.want {
			t.Errorf("Good of %v, %v, %d, %d is %v", c.n, c.flow, c.s, c.t, got)
		}
	}
}

// G2: vertices that more leaves than enters, and the other way; flows that aren't good for any two vertices; wrong inputs.
func TestValueTells(t *testing.T) {
	both := api.Net{N: 3, Edges: []api.Edge{edge(0, 1, 5), edge(1, 0, 5), edge(0, 1, 7), edge(1, 2, 9)}}
	many := api.Net{N: 64, Edges: slices.Repeat([]api.Edge{edge(63, 0, 1000)}, 256)}
	most := slices.Repeat([]int{1000}, 256)
	for _, c := range []struct {
		n       api.Net
		flow    []int
		s, want int
	}{
		{line, []int{2, 2}, 0, 2}, {line, []int{2, 2}, 1, 0}, {line, []int{2, 2}, 2, -2}, {line, []int{3, 1}, 1, -2}, {line, []int{3, 1}, 2, -1}, {line, []int{0, 2}, 1, 2}, {line, []int{0, 0}, 0, 0},
		{both, []int{5, 3, 7, 1}, 0, 9}, {both, []int{5, 3, 7, 1}, 1, -8}, {both, []int{5, 3, 7, 1}, 2, -1}, {both, []int{0, 5, 0, 9}, 1, 14}, {both, []int{0, 5, 0, 9}, 0, -5},
		{many, most, 63, 256000}, {many, most, 0, -256000}, {many, most, 1, 0}, {many, most, 62, 0}, {many, most, 64, 0},
		{line, []int{2, 2}, -1, 0}, {line, []int{2, 2}, 3, 0}, {line, []int{2, 2}, math.MinInt, 0}, {line, []int{2, 2}, math.MaxInt, 0}, {line, []int{2, 2}, 1 << 32, 0},
		{line, []int{4, 2}, 0, 0}, {line, []int{2, 3}, 0, 0}, {line, []int{-1, 0}, 0, 0}, {line, []int{2, -1}, 0, 0}, {line, []int{2}, 0, 0}, {line, []int{2, 2, 2}, 0, 0}, {line, nil, 0, 0}, {line, []int{math.MaxInt, 2}, 0, 0}, {line, []int{2, math.MinInt}, 0, 0},
		{api.Net{N: 2}, nil, 1, 0},
	} {
		if got := graph.Value(c.n, c.flow, c.s); got != c.want {
			t.Errorf("Value of %v, %v, %d is %d, not %d", c.n, c.flow, c.s, got, c.want)
		}
	}
}

// The section Reach: along edges with room, against edges with flow, not along full ones nor against empty ones; wrong inputs.
func TestReachTells(t *testing.T) {
	for _, c := range []struct {
		n    api.Net
		flow []int
		s    int
		want []int
	}{
		{line, []int{2, 2}, 0, []int{0, 1}}, {line, []int{2, 2}, 1, []int{0, 1}}, {line, []int{2, 2}, 2, []int{0, 1, 2}}, {line, []int{3, 2}, 0, []int{0}}, {line, []int{3, 2}, 1, []int{0, 1}},
		{line, []int{0, 0}, 0, []int{0, 1, 2}}, {line, []int{0, 0}, 1, []int{1, 2}}, {line, []int{0, 0}, 2, []int{2}}, {line, []int{0, 1}, 2, []int{1, 2}}, {line, []int{3, 0}, 0, []int{0}}, {line, []int{3, 0}, 1, []int{0, 1, 2}},
		// An edge of no capacity leads nowhere; of two edges beside each other one is enough.
		{api.Net{N: 2, Edges: []api.Edge{edge(0, 1, 0)}}, []int{0}, 0, []int{0}}, {api.Net{N: 2, Edges: []api.Edge{edge(0, 1, 0)}}, []int{0}, 1, []int{1}},
		{api.Net{N: 2, Edges: []api.Edge{edge(0, 1, 1), edge(0, 1, 1)}}, []int{1, 0}, 0, []int{0, 1}}, {api.Net{N: 2, Edges: []api.Edge{edge(0, 1, 1), edge(0, 1, 1)}}, []int{1, 1}, 0, []int{0}}, {api.Net{N: 2, Edges: []api.Edge{edge(0, 1, 1), edge(0, 1, 1)}}, []int{1, 0}, 1, []int{0, 1}},
		{api.Net{N: 2}, nil, 1, []int{1}},
	} {
		want := make([]bool, c.n.N)
		for _, v := range c.want {
			want[v] = true
		}
		if got := graph.Reach(c.n, c.flow, c.s); !slices.Equal(got, want) {
			t.Errorf("Reach of %v, %v, %d is %v, not %v", c.n, c.flow, c.s, got, want)
		}
	}
	for _, s := range []int{-1, 3, math.MinInt, math.MaxInt, 1 << 32} {
		if got := graph.Reach(line, []int{2, 2}, s); len(got) != 0 {
			t.Errorf("Reach of %d is %v", s, got)
		}
	}
	for _, flow := range [][]int{nil, {2}, {2, 2, 0}, {4, 2}, {2, 3}, {-1, 2}, {2, -1}, {math.MaxInt, 2}, {2, math.MinInt}} {
		if got := graph.Reach(line, flow, 0); len(got) != 0 {
			t.Errorf("Reach of %v is %v", flow, got)
		}
	}
}

// The section Reach: the longest way, along its edges and against them, with the edges in its order, in the other one, and in many more.
func TestReachGoesFar(t *testing.T) {
	random := rand.New(rand.NewSource(1))
	n := api.Net{N: 64}
	for v := range 63 {
		n.Edges = append(n.Edges, edge(v, v+1, 1))
	}
	for range 20 {
		empty, full := make([]int, 63), slices.Repeat([]int{1}, 63)
		all := slices.Repeat([]bool{true}, 64)
		if !slices.Equal(graph.Reach(n, empty, 0), all) || !slices.Equal(graph.Reach(n, full, 63), all) {
			t.Error("not all reached")
		}
		slices.Reverse(n.Edges)
		if !slices.Equal(graph.Reach(n, empty, 0), all) || !slices.Equal(graph.Reach(n, full, 63), all) {
			t.Error("not all reached the other way")
		}
		checkFlow(t, n, empty)
		checkFlow(t, n, full)
		random.Shuffle(63, func(i, j int) { n.Edges[i], n.Edges[j] = n.Edges[j], n.Edges[i] })
	}
}

// The section Cut: edges out of a side count, edges into it and within don't; sides that are too short, too long, empty or whole.
func TestCutTells(t *testing.T) {
	n := api.Net{N: 3, Edges: []api.Edge{edge(0, 1, 3), edge(1, 2, 5), edge(2, 0, 7), edge(1, 0, 11), edge(0, 1, 13)}}
	const in, out = true, false
	for _, c := range []struct {
		n    api.Net
		side []bool
		want int
	}{
		{n, []bool{out, out, out}, 0}, {n, []bool{in, in, in}, 0}, {n, []bool{in, out, out}, 16}, {n, []bool{out, in, out}, 16}, {n, []bool{out, out, in}, 7}, {n, []bool{in, in, out}, 5}, {n, []bool{in, out, in}, 16}, {n, []bool{out, in, in}, 18},
		{n, []bool{in, out}, 0}, {n, []bool{in, out, out, out}, 0}, {n, []bool{in, out, out, in}, 0}, {n, nil, 0}, {n, make([]bool, 1<<22), 0},
		{line, []bool{in, in, out}, 2}, {line, []bool{in, out, out}, 3}, {line, []bool{out, out, in}, 0},
		{api.Net{N: 2}, []bool{in, out}, 0}, {api.Net{N: 2, Edges: slices.Repeat([]api.Edge{edge(1, 0, 1000)}, 256)}, []bool{out, in}, 256000},
	} {
		if got := graph.Cut(c.n, c.side); got != c.want {
			t.Errorf("Cut of %v, %v is %d, not %d", c.n, c.side, got, c.want)
		}
	}
}

// G1, G2, the sections Reach and Cut: networks with every small edge, alone and beside another one, valid or not, with all small flows, fitting or not, and all sides.
func TestSmallNets(t *testing.T) {
	var all []api.Edge
	for _, e := range lists(3, -1, 2) {
		all = append(all, edge(e[0], e[1], e[2]))
	}
	random := rand.New(rand.NewSource(2))
	for vertices := range 4 {
		for _, a := range all {
			n := api.Net{N: vertices, Edges: []api.Edge{a, all[random.Intn(len(all))]}}
			for many := range 3 {
				m := api.Net{N: vertices, Edges: n.Edges[:many]}
				for _, flow := range lists(many, -1, 3) {
					checkFlow(t, m, flow)
				}
				for _, side := range slices.Concat(sides(1), sides(2), sides(3), sides(4)) {
					checkCut(t, m, side)
				}
			}
		}
	}
}

// G1, G2, the sections Reach and Cut: networks of every size, with flows that fit, some of them good, some of them with one number changed.
func TestRandomNets(t *testing.T) {
	random := rand.New(rand.NewSource(3))
	for range 3000 {
		vertices := 2 + random.Intn(5)
		if random.Intn(8) == 0 {
			vertices = 2 + random.Intn(63)
		}
		n := randomNet(random, vertices, random.Intn(4*vertices+1), []int{1, 2, 1000}[random.Intn(3)])
		flow := randomFlow(random, n)
		checkFlow(t, n, flow)
		flow = randomGoodFlow(random, n, random.Intn(min(vertices, 3)), random.Intn(min(vertices, 3)))
		checkFlow(t, n, flow)
		if len(flow) > 0 {
			flow[random.Intn(len(flow))] += random.Intn(3) - 1
			checkFlow(t, n, flow)
			n.Edges[random.Intn(len(flow))].To += random.Intn(5) - 2
			checkFlow(t, n, flow)
		}
		side := make([]bool, vertices)
		for v := range side {
			side[v] = random.Intn(2) == 0
		}
		checkCut(t, n, side)
	}
}

// G3: in small networks, for every good flow: what arrives, what every cut bounds, and that where t isn't reachable none is greater.
func TestNoFlowBeatsACut(t *testing.T) {
	random := rand.New(rand.NewSource(4))
	for range 400 {
		n := randomNet(random, 2+random.Intn(3), random.Intn(6), 2)
		for s := range n.N {
			for to := range n.N {
				checkTheorem(t, n, s, to, lists(len(n.Edges), 0, 2))
			}
		}
	}
}

// checkTheorem holds the chapter's theorem for those flows that are good, which are all there are.
func checkTheorem(t *testing.T, n api.Net, s, to int, flows [][]int) {
	t.Helper()
	best, greatest := -1, math.MinInt
	for _, flow := range flows {
		if !graph.Good(n, flow, s, to) {
			continue
		}
		arrives := checkBounds(t, n, flow, s, to, sides(n.N))
		greatest = max(greatest, arrives)
		if reached := graph.Reach(n, flow, s); !reached[to] {
			best = graph.Cut(n, reached)
			if best != arrives {
				t.Errorf("%v, %v from %d to %d: Cut of what is reached is %d, not %d", n, flow, s, to, best, arrives)
			}
		}
	}
	if s != to && best != greatest {
		t.Errorf("%v from %d to %d: %d at the most, but nothing more is reached with %d", n, s, to, greatest, best)
	}
}

// checkBounds returns the value of a good flow, which must be what arrives, and at most the Cut of every side with s and without to.
func checkBounds(t *testing.T, n api.Net, flow []int, s, to int, sides [][]bool) int {
	t.Helper()
	leaves := graph.Value(n, flow, s)
	if arrives := -graph.Value(n, flow, to); arrives != leaves {
		t.Errorf("%v, %v: %d leaves %d, %d arrives at %d", n, flow, leaves, s, arrives, to)
	}
	for _, side := range sides {
		if side[s] && !side[to] && graph.Cut(n, side) < leaves {
			t.Errorf("%v, %v from %d to %d: %d, but the Cut of %v is %d", n, flow, s, to, leaves, side, graph.Cut(n, side))
		}
	}
	return leaves
}

// pushOne changes a good flow so that 1 more goes from s to t along residual capacity; where there is no way, it changes nothing.
func pushOne(n api.Net, flow []int, s, t int) {
	from, seen := map[int]int{}, []int{s} // the edge that led to a vertex
	for i := 0; i < len(seen); i++ {
		for j, e := range n.Edges {
			next := -1
			if e.From == seen[i] && flow[j] < e.Cap {
				next = e.To
			} else if e.To == seen[i] && flow[j] > 0 {
				next = e.From
			}
			if next >= 0 && !slices.Contains(seen, next) {
				from[next] = j
				seen = append(seen, next)
			}
		}
	}
	if !slices.Contains(seen, t) {
		return
	}
	for v := t; v != s; {
		j := from[v]
		if n.Edges[j].To == v {
			flow[j]++
			v = n.Edges[j].From
		} else {
			flow[j]--
			v = n.Edges[j].To
		}
	}
}

// G3: in networks up to the greatest, a flow that grows as long as t is reached ends at the Cut of what is reached.
func TestTheGreatestFlowIsACut(t *testing.T) {
	random := rand.New(rand.NewSource(5))
	for range 40 {
		n := randomNet(random, 2+random.Intn(63), 200+random.Intn(57), 1+random.Intn(9))
		s, to := n.N-1, random.Intn(n.N-1)
		flow := make([]int, len(n.Edges))
		pushed := 0
		for graph.Reach(n, flow, s)[to] {
			pushOne(n, flow, s, to)
			pushed++
			if !graph.Good(n, flow, s, to) || graph.Value(n, flow, s) != pushed {
				t.Fatalf("%v, %v from %d to %d: %d, not %d", n, flow, s, to, graph.Value(n, flow, s), pushed)
			}
		}
		var some [][]bool
		for range 50 {
			side := make([]bool, n.N)
			for v := range side {
				side[v] = random.Intn(2) == 0
			}
			side[s], side[to] = true, false
			some = append(some, side)
		}
		reached := graph.Reach(n, flow, s)
		if value := checkBounds(t, n, flow, s, to, some); value != graph.Cut(n, reached) {
			t.Errorf("%v from %d to %d: %d is not the Cut %d", n, s, to, value, graph.Cut(n, reached))
		}
	}
}

// roomy is a copy with memory behind its length.
func roomy[T any](list []T, behind T) []T {
	long := append(slices.Clone(list), behind, behind)
	return long[:len(list)]
}

// R3: arguments stay as they are, also behind their length, and what was answered does, whatever becomes of them.
func TestArgumentsAreLeftAlone(t *testing.T) {
	spare := edge(7, 8, 9)
	n := api.Net{N: 3, Edges: roomy(line.Edges, spare)}
	flow, side := roomy([]int{2, 2}, 77), roomy([]bool{true, false, false}, true)
	reached := graph.Reach(n, flow, 0)
	for range 2 {
		graph.Right(n)
		graph.Good(n, flow, 0, 2)
		graph.Value(n, flow, 0)
		graph.Reach(n, flow, 2)
		graph.Cut(n, side)
	}
	if !slices.Equal(n.Edges[:4], append(slices.Clone(line.Edges), spare, spare)) || !slices.Equal(flow[:4], []int{2, 2, 77, 77}) || !slices.Equal(side[:5], []bool{true, false, false, true, true}) {
		t.Error("changed:", n.Edges[:4], flow[:4], side[:5])
	}
	flow[0], n.Edges[0].Cap = 0, 0
	if !slices.Equal(reached, []bool{true, true, false}) {
		t.Error("an answer changed with its arguments:", reached)
	}
	if got := graph.Reach(n, flow, 0); !slices.Equal(got, []bool{true, false, false}) {
		t.Error("an answer that is the last one's:", got)
	}
}

// R3, R4: an answer may be changed and extended without a change of another one.
func TestAnswersAreNewMemory(t *testing.T) {
	flow := []int{2, 2}
	first, second := graph.Reach(line, flow, 0), graph.Reach(line, flow, 0)
	whole := first[:cap(first)]
	for i := range whole {
		whole[i] = false
	}
	_ = append(first, false, false, false)
	for _, got := range [][]bool{second, graph.Reach(line, flow, 0)} {
		if !slices.Equal(got, []bool{true, true, false}) {
			t.Error(got)
		}
	}
}
