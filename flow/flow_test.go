package flow_test

import (
	"math"
	"math/rand"
	"slices"
	"testing"

	"billet/api"
	"billet/flow"
	"billet/graph"
)

// edge is short for tables.
func edge(from, to, limit int) api.Edge {
	return api.Edge{From: from, To: to, Cap: limit}
}

// line is the network of the chapter's examples.
var line = api.Net{N: 3, Edges: []api.Edge{edge(0, 1, 3), edge(1, 2, 2)}}

// diamond has two shortest ways from 0 to 3, and one edge across.
var diamond = api.Net{N: 4, Edges: []api.Edge{edge(0, 1, 3), edge(0, 2, 2), edge(1, 3, 2), edge(2, 3, 2), edge(1, 2, 1)}}

// move is an edge of a path, and 1 if the path follows it forward, -1 if backward.
type move struct{ edge, sign int }

// nextPath is the chapter's breadth-first search: each vertex that is marked has its whole path with it.
func nextPath(n api.Net, f []int, s, t int) ([]move, bool) {
	paths := map[int][]move{s: nil}
	for order := []int{s}; len(order) > 0; order = order[1:] {
		u := order[0]
		for i, e := range n.Edges {
			to, sign := -1, 0
			if e.From == u && f[i] < e.Cap {
				to, sign = e.To, 1
			}
			if e.To == u && f[i] > 0 {
				to, sign = e.From, -1
			}
			if _, marked := paths[to]; sign != 0 && !marked {
				paths[to] = append(slices.Clone(paths[u]), move{i, sign})
				order = append(order, to)
			}
		}
	}
	path, marked := paths[t]
	return path, marked
}

// capacity is the chapter's residual capacity of a path.
func capacity(n api.Net, f []int, path []move) int {
	var all []int
	for _, m := range path {
		if m.sign > 0 {
			all = append(all, n.Edges[m.edge].Cap-f[m.edge])
		} else {
			all = append(all, f[m.edge])
		}
	}
	return slices.Min(all)
}

// push is H1's definition.
func push(n api.Net, f []int, s, t, most int) ([]int, int, api.Errno) {
	if !graph.Good(n, f, s, t) || most < 0 {
		return nil, 0, api.ErrGraphForm
	}
	f = slices.Clone(f)
	left := most
	for left > 0 {
		path, found := nextPath(n, f, s, t)
		if !found {
			break
		}
		by := min(capacity(n, f, path), left)
		for _, m := range path {
			f[m.edge] += m.sign * by
		}
		left -= by
	}
	return f, most - left, api.OK
}

// result is what Push and Max answer.
type result struct {
	flow     []int
	increase int
	e        api.Errno
}

// pushed and greatest are the answers as one value.
func pushed(n api.Net, f []int, s, t, most int) result {
	got, increase, e := flow.Push(n, f, s, t, most)
	return result{got, increase, e}
}

func greatest(n api.Net, s, t int) result {
	got, increase, e := flow.Max(n, s, t)
	return result{got, increase, e}
}

// equals reports whether two answers are the same.
func (r result) equals(other result) bool {
	return slices.Equal(r.flow, other.flow) && r.increase == other.increase && r.e == other.e
}

// refused is the answer to what has no good flow.
var refused = result{nil, 0, api.ErrGraphForm}

// checkPush holds Push against the definition.
func checkPush(t *testing.T, n api.Net, f []int, s, to, most int) {
	t.Helper()
	want, increase, e := push(n, f, s, to, most)
	if got := pushed(n, f, s, to, most); !got.equals(result{want, increase, e}) {
		t.Errorf("Push of %v, %v from %d to %d, %d is %v, not %v, %d, %d", n, f, s, to, most, got, want, increase, e)
	}
}

// checkMax holds Max against H2.
func checkMax(t *testing.T, n api.Net, s, to int) {
	t.Helper()
	want, increase, e := push(n, make([]int, len(n.Edges)), s, to, 1<<30)
	if got := greatest(n, s, to); !got.equals(result{want, increase, e}) {
		t.Errorf("Max of %v from %d to %d is %v, not %v, %d, %d", n, s, to, got, want, increase, e)
	}
}

// checkTheorem holds a Push against H3, but for what only all good flows tell.
func checkTheorem(t *testing.T, n api.Net, f []int, s, to, most int) {
	t.Helper()
	got := pushed(n, f, s, to, most)
	if got.e != api.OK || !graph.Good(n, got.flow, s, to) || got.increase < 0 || got.increase > most {
		t.Errorf("Push of %v, %v from %d to %d, %d: %v is not good", n, f, s, to, most, got)
		return
	}
	value := graph.Value(n, got.flow, s)
	if value != graph.Value(n, f, s)+got.increase {
		t.Errorf("Push of %v, %v from %d to %d, %d: %v has the value %d", n, f, s, to, most, got, value)
	}
	if reached := graph.Reach(n, got.flow, s); got.increase < most && (reached[to] || graph.Cut(n, reached) != value) {
		t.Errorf("Push of %v, %v from %d to %d, %d: %v is not the greatest", n, f, s, to, most, got)
	}
}

// checkParts holds two calls of Push against one with the sum.
func checkParts(t *testing.T, n api.Net, f []int, s, to, first, second int) {
	t.Helper()
	one := pushed(n, f, s, to, first)
	two := pushed(n, one.flow, s, to, second)
	both := result{two.flow, one.increase + two.increase, two.e}
	if whole := pushed(n, f, s, to, first+second); !whole.equals(both) {
		t.Errorf("Push of %v, %v from %d to %d: %d and %d are %v, not %v", n, f, s, to, first, second, both, whole)
	}
}

// lists are all that have so many elements, each from low to high.
func lists(long, low, high int) [][]int {
	all := [][]int{nil}
	for range long {
		var longer [][]int
		for _, list := range all {
			for x := low; x <= high; x++ {
				longer = append(longer, append(slices.Clone(list), x))
			}
		}
		all = longer
	}
	return all
}

// randomNet is valid, and has so many vertices and edges; some of the edges lie beside each other, or against each other.
func randomNet(random *rand.Rand, vertices, many, most int) api.Net {
	n := api.Net{N: vertices}
	for range many {
		from := random.Intn(vertices)
		to := (from + 1 + random.Intn(vertices-1)) % vertices
		n.Edges = append(n.Edges, edge(from, to, random.Intn(most+1)))
	}
	return n
}

// randomFlow is good from s to t: it is made of rings, and of ways from s to t or the other way, as far as there is room.
func randomFlow(random *rand.Rand, n api.Net, s, t int) []int {
	f := make([]int, len(n.Edges))
	for range random.Intn(30) {
		at, end := s, t
		switch random.Intn(4) {
		case 0:
			at = random.Intn(n.N)
			end = at
		case 1:
			at, end = t, s
		}
		addWay(random, n, f, at, end, 1+random.Intn(3))
	}
	return f
}

// addWay adds so much to each edge of a random way from at to end, if it finds one.
func addWay(random *rand.Rand, n api.Net, f []int, at, end, much int) {
	next := slices.Clone(f)
	for range 3 * n.N {
		var free []int
		for i, e := range n.Edges {
			if e.From == at && next[i]+much <= e.Cap {
				free = append(free, i)
			}
		}
		if len(free) == 0 {
			return
		}
		i := free[random.Intn(len(free))]
		next[i] += much
		at = n.Edges[i].To
		if at == end {
			copy(f, next)
			return
		}
	}
}

// H1, H2: the chapter's examples.
func TestTheExamples(t *testing.T) {
	if got := pushed(line, []int{2, 2}, 0, 2, 5); !got.equals(result{[]int{2, 2}, 0, api.OK}) {
		t.Error(got)
	}
	if got := pushed(line, []int{0, 0}, 0, 2, 1); !got.equals(result{[]int{1, 1}, 1, api.OK}) {
		t.Error(got)
	}
	if got := greatest(line, 0, 2); !got.equals(result{[]int{2, 2}, 2, api.OK}) {
		t.Error(got)
	}
}

// H1: most is an upper bound that is met exactly, within a path and between two; 0 changes nothing, and the greatest number does no harm.
func TestMostBounds(t *testing.T) {
	for _, c := range []struct {
		most int
		want []int
		more int
	}{
		{0, []int{0, 0, 0, 0, 0}, 0}, {1, []int{1, 0, 1, 0, 0}, 1}, {2, []int{2, 0, 2, 0, 0}, 2}, {3, []int{2, 1, 2, 1, 0}, 3}, {4, []int{2, 2, 2, 2, 0}, 4}, {5, []int{2, 2, 2, 2, 0}, 4}, {1 << 30, []int{2, 2, 2, 2, 0}, 4}, {math.MaxInt, []int{2, 2, 2, 2, 0}, 4},
	} {
		if got := pushed(diamond, make([]int, 5), 0, 3, c.most); !got.equals(result{c.want, c.more, api.OK}) {
			t.Errorf("Push of %d is %v", c.most, got)
		}
	}
	// Not only the last path is bounded: the first one has room for more than most.
	wide := api.Net{N: 2, Edges: []api.Edge{edge(0, 1, 1000), edge(0, 1, 7), edge(0, 1, 0), edge(0, 1, 1000)}}
	for _, c := range []struct{ most, a, b, d int }{{0, 0, 0, 0}, {999, 999, 0, 0}, {1000, 1000, 0, 0}, {1001, 1000, 1, 0}, {1007, 1000, 7, 0}, {1008, 1000, 7, 1}, {2006, 1000, 7, 999}, {2007, 1000, 7, 1000}, {2008, 1000, 7, 1000}} {
		if got := pushed(wide, make([]int, 4), 0, 1, c.most); !got.equals(result{[]int{c.a, c.b, 0, c.d}, min(c.most, 2007), api.OK}) {
			t.Errorf("Push of %d is %v", c.most, got)
		}
	}
}

// H1: of two paths the shorter one is taken; of two that are as short, the one whose first vertices were marked first, by the order of the edges.
func TestWhichPathIsNext(t *testing.T) {
	for _, c := range []struct {
		n    api.Net
		f    []int
		s, t int
		want []int
	}{
		// The short way stands last.
		{api.Net{N: 4, Edges: []api.Edge{edge(0, 1, 1), edge(1, 2, 1), edge(2, 3, 1), edge(0, 3, 1)}}, nil, 0, 3, []int{0, 0, 0, 1}},
		{api.Net{N: 4, Edges: []api.Edge{edge(0, 1, 1), edge(1, 2, 1), edge(2, 3, 1), edge(0, 2, 1)}}, nil, 0, 3, []int{0, 0, 1, 1}},
		// The vertex that is marked first goes on, though the other's edge to 3 stands first.
		{api.Net{N: 4, Edges: []api.Edge{edge(2, 3, 1), edge(1, 3, 1), edge(0, 1, 1), edge(0, 2, 1)}}, nil, 0, 3, []int{0, 1, 1, 0}},
		{api.Net{N: 4, Edges: []api.Edge{edge(1, 3, 1), edge(2, 3, 1), edge(0, 2, 1), edge(0, 1, 1)}}, nil, 0, 3, []int{0, 1, 1, 0}},
		// It is the order of marking at every distance, not that of the vertices' numbers.
		{api.Net{N: 6, Edges: []api.Edge{edge(3, 5, 1), edge(4, 5, 1), edge(1, 3, 1), edge(2, 4, 1), edge(0, 2, 1), edge(0, 1, 1)}}, nil, 0, 5, []int{0, 1, 0, 1, 1, 0}},
		// Edges beside each other are used in their order, those without room are passed over.
		{api.Net{N: 2, Edges: []api.Edge{edge(0, 1, 0), edge(1, 0, 9), edge(0, 1, 2), edge(0, 1, 2)}}, nil, 0, 1, []int{0, 0, 1, 0}},
		{api.Net{N: 2, Edges: []api.Edge{edge(0, 1, 0), edge(1, 0, 9), edge(0, 1, 2), edge(0, 1, 2)}}, []int{0, 0, 2, 1}, 0, 1, []int{0, 0, 2, 2}},
		// Backward edges count by their place, too.
		{api.Net{N: 2, Edges: []api.Edge{edge(1, 0, 9), edge(0, 1, 2)}}, []int{3, 1}, 0, 1, []int{2, 1}},
		{api.Net{N: 2, Edges: []api.Edge{edge(0, 1, 2), edge(1, 0, 9)}}, []int{1, 3}, 0, 1, []int{2, 3}},
		{api.Net{N: 2, Edges: []api.Edge{edge(0, 1, 2), edge(1, 0, 9)}}, []int{2, 3}, 0, 1, []int{2, 2}},
		// A path that takes back the edge across.
		{api.Net{N: 4, Edges: []api.Edge{edge(0, 1, 1), edge(0, 2, 1), edge(1, 2, 1), edge(1, 3, 1), edge(2, 3, 1)}}, []int{1, 0, 1, 0, 1}, 0, 3, []int{1, 1, 0, 1, 1}},
		// What comes from t to s is taken back; what goes round through s or t is, where that is the next path.
		{line, []int{1, 1}, 2, 0, []int{0, 0}},
		{api.Net{N: 3, Edges: []api.Edge{edge(1, 0, 5), edge(2, 1, 5)}}, []int{4, 4}, 0, 2, []int{3, 3}},
		{api.Net{N: 3, Edges: []api.Edge{edge(0, 1, 5), edge(1, 0, 5), edge(1, 2, 5)}}, []int{5, 5, 0}, 0, 2, []int{5, 4, 1}},
	} {
		f := c.f
		if f == nil {
			f = make([]int, len(c.n.Edges))
		}
		if got := pushed(c.n, f, c.s, c.t, 1); !got.equals(result{c.want, 1, api.OK}) {
			t.Errorf("Push of %v, %v from %d to %d, 1 is %v, not %v", c.n, f, c.s, c.t, got, c.want)
		}
		checkPush(t, c.n, f, c.s, c.t, math.MaxInt)
	}
}

// H1: the residual capacity of a path is the least, wherever on the path it is, and whichever way its edge is followed.
func TestTheNarrowestEdgeCounts(t *testing.T) {
	for place := range 5 {
		for _, narrow := range []int{0, 1, 3, 6} {
			// The only path is the first five edges, of which it follows two backward; the others are full.
			room := []int{7, 7, 7, 7, 7}
			room[place] = narrow
			f := []int{2, room[1], 2, room[3], 2, room[1] + 2, room[3] + 2, room[1] + 2, room[3] + 2}
			n := api.Net{N: 6, Edges: []api.Edge{
				edge(0, 1, 2+room[0]), edge(2, 1, 9), edge(2, 3, 2+room[2]), edge(4, 3, 9), edge(4, 5, 2+room[4]),
				edge(0, 2, f[5]), edge(0, 4, f[6]), edge(1, 5, f[7]), edge(3, 5, f[8]),
			}}
			for _, most := range []int{0, 1, 2, 6, 7, math.MaxInt} {
				by := min(narrow, most)
				want := slices.Clone(f)
				for i, sign := range []int{1, -1, 1, -1, 1} {
					want[i] += sign * by
				}
				if got := pushed(n, f, 0, 5, most); !got.equals(result{want, by, api.OK}) {
					t.Errorf("Push of %v, %v, %d is %v, not %v", n, f, most, got, want)
				}
			}
		}
	}
}

// H1, R1, R2: what is no good flow, or no increase, is refused, and nothing else is answered.
func TestWhatIsRefused(t *testing.T) {
	two := []int{2, 2}
	for _, c := range []struct {
		n          api.Net
		f          []int
		s, t, most int
	}{
		{line, two, 0, 2, -1}, {line, two, 0, 2, math.MinInt}, {line, []int{0, 0}, 0, 2, -1}, {line, []int{0, 0}, 0, 2, -5}, {line, nil, 0, 2, -1},
		{line, two, 0, 0, 1}, {line, two, 2, 2, 1}, {line, two, -1, 2, 1}, {line, two, 0, -1, 1}, {line, two, 3, 2, 1}, {line, two, 0, 3, 1}, {line, two, math.MinInt, math.MaxInt, 1}, {line, two, 1 << 32, 2, 1}, {line, []int{0, 0}, 0, 0, 0}, {line, []int{0, 0}, -1, -1, 0},
		{line, []int{2, 1}, 0, 2, 1}, {line, []int{1, 2}, 0, 2, 1}, {line, []int{3, 3}, 0, 2, 1}, {line, []int{-1, -1}, 0, 2, 1}, {line, []int{math.MaxInt, math.MaxInt}, 0, 2, 1}, {line, []int{math.MinInt, math.MinInt}, 0, 2, 1}, {line, []int{2, 2}, 0, 1, 0},
		{line, []int{2}, 0, 2, 1}, {line, []int{2, 2, 2}, 0, 2, 1}, {line, []int{2, 2, 0}, 0, 2, 1}, {line, []int{}, 0, 2, 1}, {line, nil, 0, 2, 1}, {line, nil, 0, 2, 0}, {line, make([]int, 1<<20), 0, 2, 1},
	} {
		if got := pushed(c.n, c.f, c.s, c.t, c.most); !got.equals(refused) {
			t.Errorf("Push of %v, %d numbers from %d to %d, %d is %v", c.n, len(c.f), c.s, c.t, c.most, got)
		}
	}
}

// wrongNets are just beyond the limits, or far beyond.
func wrongNets() []api.Net {
	all := []api.Net{
		{}, {N: 1}, {N: 65}, {N: -1}, {N: math.MinInt}, {N: math.MaxInt}, {N: 1<<32 + 2},
		{N: 2, Edges: slices.Repeat([]api.Edge{edge(0, 1, 1)}, 257)}, {N: 64, Edges: make([]api.Edge, 1<<20)},
		{N: 1, Edges: []api.Edge{edge(0, 1, 1)}}, {N: 65, Edges: []api.Edge{edge(0, 1, 1)}},
	}
	ok := edge(0, 1, 5)
	for _, e := range []api.Edge{
		edge(0, 0, 1), edge(-1, 0, 1), edge(0, -1, 1), edge(3, 0, 1), edge(0, 3, 1), edge(0, 1, -1), edge(0, 1, 1001),
		edge(math.MinInt, 0, 1), edge(0, math.MaxInt, 1), edge(0, 1, math.MinInt), edge(0, 1, math.MaxInt),
	} {
		all = append(all, api.Net{N: 3, Edges: []api.Edge{e}}, api.Net{N: 3, Edges: []api.Edge{e, ok}}, api.Net{N: 3, Edges: []api.Edge{ok, e}})
	}
	return all
}

// H1, H2, R1, R2: networks that are not valid are refused.
func TestWrongNetsAreRefused(t *testing.T) {
	for i, n := range wrongNets() {
		full := make([]int, len(n.Edges))
		for j, e := range n.Edges {
			full[j] = e.Cap
		}
		for _, s := range []int{-1, 0, 1, 2, math.MinInt, math.MaxInt, n.N, n.N - 1} {
			for _, to := range []int{-1, 0, 1, 2, n.N} {
				if got := greatest(n, s, to); !got.equals(refused) {
					t.Errorf("%d of the wrong ones, with %d vertices: Max from %d to %d is %v", i, n.N, s, to, got)
				}
				for _, f := range [][]int{nil, full, make([]int, len(n.Edges))} {
					if got := pushed(n, f, s, to, 1); !got.equals(refused) {
						t.Errorf("%d of the wrong ones, with %d vertices: Push from %d to %d is %v", i, n.N, s, to, got)
					}
				}
			}
		}
	}
}

// H2: vertices that are none, or the same; networks without a path; the greatest Caps, and the greatest of all flows.
func TestMaxTells(t *testing.T) {
	for _, c := range [][2]int{{0, 0}, {2, 2}, {-1, 2}, {0, -1}, {3, 0}, {0, 3}, {math.MinInt, 0}, {0, math.MaxInt}, {-1, -1}, {5, 5}} {
		if got := greatest(line, c[0], c[1]); !got.equals(refused) {
			t.Errorf("Max from %d to %d is %v", c[0], c[1], got)
		}
	}
	most := api.Net{N: 64, Edges: slices.Repeat([]api.Edge{edge(63, 0, 1000)}, 256)}
	for _, c := range []struct {
		n    api.Net
		s, t int
		want []int
		more int
	}{
		{line, 0, 1, []int{3, 0}, 3}, {line, 1, 2, []int{0, 2}, 2}, {line, 2, 0, []int{0, 0}, 0}, {line, 1, 0, []int{0, 0}, 0},
		{api.Net{N: 2}, 0, 1, nil, 0}, {api.Net{N: 64}, 63, 0, nil, 0}, {api.Net{N: 2, Edges: []api.Edge{edge(0, 1, 0)}}, 0, 1, []int{0}, 0},
		{api.Net{N: 2, Edges: []api.Edge{edge(0, 1, 1000), edge(1, 0, 1000)}}, 0, 1, []int{1000, 0}, 1000},
		{diamond, 0, 3, []int{2, 2, 2, 2, 0}, 4},
		{most, 63, 0, slices.Repeat([]int{1000}, 256), 256000}, {most, 0, 63, make([]int, 256), 0},
	} {
		if got := greatest(c.n, c.s, c.t); !got.equals(result{c.want, c.more, api.OK}) {
			t.Errorf("Max of %v from %d to %d is %v", c.n, c.s, c.t, got)
		}
		checkMax(t, c.n, c.s, c.t)
	}
}

// H1: an increase from the greatest flow the other way, which is taken back, to the greatest flow.
func TestTheGreatestIncrease(t *testing.T) {
	n := api.Net{N: 2}
	var back, forth []int
	for range 128 {
		n.Edges = append(n.Edges, edge(0, 1, 1000), edge(1, 0, 1000))
		back, forth = append(back, 0, 1000), append(forth, 1000, 0)
	}
	almost := slices.Clone(forth)
	almost[255] = 1
	for _, c := range []struct {
		most, more int
		want       []int
	}{{0, 0, back}, {255999, 255999, almost}, {256000, 256000, forth}, {256001, 256000, forth}, {math.MaxInt, 256000, forth}} {
		if got := pushed(n, back, 0, 1, c.most); !got.equals(result{c.want, c.more, api.OK}) {
			t.Errorf("Push of %d is %v", c.most, got)
		}
		checkTheorem(t, n, back, 0, 1, c.most)
	}
}

// H1, H2: networks with every small edge beside others, all small flows, good or not, all vertices, and some beyond.
func TestSmallNets(t *testing.T) {
	random := rand.New(rand.NewSource(1))
	for range 300 {
		n := randomNet(random, 2+random.Intn(3), random.Intn(5), 2)
		flows := append(lists(len(n.Edges), 0, 2), nil, make([]int, len(n.Edges)+1), slices.Repeat([]int{-1}, len(n.Edges)))
		for s := -1; s <= n.N; s++ {
			for to := -1; to <= n.N; to++ {
				checkMax(t, n, s, to)
				for _, f := range flows {
					checkPush(t, n, f, s, to, random.Intn(6)-1)
				}
			}
		}
	}
}

// H1, H2, H3: networks of every size, with flows that are good.
func TestRandomNets(t *testing.T) {
	random := rand.New(rand.NewSource(2))
	for range 3000 {
		vertices := 2 + random.Intn(6)
		if random.Intn(8) == 0 {
			vertices = 2 + random.Intn(63)
		}
		n := randomNet(random, vertices, random.Intn(min(4*vertices, 256)+1), []int{1, 3, 1000}[random.Intn(3)])
		s := random.Intn(vertices)
		to := (s + 1 + random.Intn(vertices-1)) % vertices
		f := randomFlow(random, n, s, to)
		for _, most := range []int{0, 1, random.Intn(10), random.Intn(2000), math.MaxInt} {
			checkPush(t, n, f, s, to, most)
			checkTheorem(t, n, f, s, to, most)
			checkParts(t, n, f, s, to, random.Intn(10), random.Intn(100))
		}
		checkMax(t, n, s, to)
		if len(f) > 0 {
			f[random.Intn(len(f))] += random.Intn(3) - 1
			checkPush(t, n, f, s, to, random.Intn(10))
			n.Edges[random.Intn(len(f))].To += random.Intn(5) - 2
			checkPush(t, n, f, s, to, random.Intn(10))
			checkMax(t, n, s, to)
		}
	}
}

// layered has vertices in rows between 0 and the last one: ways are long, and many of them are as short as each other.
func layered(random *rand.Rand, rows, wide int) api.Net {
	n := api.Net{N: rows*wide + 2}
	last := n.N - 1
	for i := range wide {
		n.Edges = append(n.Edges, edge(0, 1+i, 1+random.Intn(20)), edge(last-1-i, last, 1+random.Intn(20)))
	}
	for row := range rows - 1 {
		for range 2 * wide {
			n.Edges = append(n.Edges, edge(1+row*wide+random.Intn(wide), 1+(row+1)*wide+random.Intn(wide), 1+random.Intn(20)))
		}
	}
	for range 10 {
		from := 1 + random.Intn(rows*wide)
		if to := 1 + random.Intn(rows*wide); from != to {
			n.Edges = append(n.Edges, edge(from, to, random.Intn(20)))
		}
	}
	random.Shuffle(len(n.Edges), func(i, j int) { n.Edges[i], n.Edges[j] = n.Edges[j], n.Edges[i] })
	return n
}

// H1, H2, H3: networks up to the greatest, with long ways.
func TestLayeredNets(t *testing.T) {
	random := rand.New(rand.NewSource(3))
	for range 200 {
		n := layered(random, 2+random.Intn(9), 2+random.Intn(5))
		last := n.N - 1
		checkMax(t, n, 0, last)
		best, _, _ := flow.Max(n, 0, last)
		part, _, _ := flow.Push(n, make([]int, len(n.Edges)), 0, last, random.Intn(20))
		for _, f := range [][]int{make([]int, len(n.Edges)), part, best} {
			checkPush(t, n, f, 0, last, random.Intn(20))
			checkTheorem(t, n, f, 0, last, random.Intn(20))
			checkTheorem(t, n, f, 0, last, math.MaxInt)
			checkPush(t, n, f, last, 0, random.Intn(20)) // the way back takes it away
			checkPush(t, n, f, last, 0, math.MaxInt)
			checkTheorem(t, n, f, last, 0, math.MaxInt)
			checkParts(t, n, f, 0, last, random.Intn(20), random.Intn(20))
		}
	}
}

// H1, H2: the only way leads through all 64 vertices, in any order, along some edges backward; the other edges lead back, or are full.
func TestTheLongestWay(t *testing.T) {
	random := rand.New(rand.NewSource(6))
	for range 100 {
		order := random.Perm(64)
		n := api.Net{N: 64}
		var f, want []int
		for i := range 63 {
			from, to, backward := order[i], order[i+1], random.Intn(2) == 0
			if backward && i > 0 && i < 62 {
				// The edge that is followed backward bears what comes to it, and goes on from it, along full edges.
				n.Edges = append(n.Edges, edge(to, from, 9), edge(order[0], to, 5), edge(from, order[63], 5))
				f, want = append(f, 5, 5, 5), append(want, 0, 5, 5)
			} else {
				n.Edges = append(n.Edges, edge(from, to, 5), edge(to, from, 5), edge(from, order[0], 5))
				f, want = append(f, 0, 0, 0), append(want, 5, 0, 0)
				if i == 0 {
					n.Edges[2] = edge(to, order[0], 5)
				}
			}
		}
		random.Shuffle(len(f), func(i, j int) {
			n.Edges[i], n.Edges[j] = n.Edges[j], n.Edges[i]
			f[i], f[j] = f[j], f[i]
			want[i], want[j] = want[j], want[i]
		})
		for _, most := range []int{5, 6, math.MaxInt} {
			if got := pushed(n, f, order[0], order[63], most); !got.equals(result{want, 5, api.OK}) {
				t.Errorf("Push of %v, %v from %d to %d, %d is %v, not %v", n, f, order[0], order[63], most, got, want)
			}
		}
		checkPush(t, n, f, order[0], order[63], 3)
		checkMax(t, n, order[0], order[63])
	}
}

// H3: in small networks, no good flow has a greater Value than where Push ended before most, from wherever it started.
func TestNoGoodFlowIsGreater(t *testing.T) {
	random := rand.New(rand.NewSource(4))
	for range 300 {
		n := randomNet(random, 2+random.Intn(3), random.Intn(6), 2)
		for s := range n.N {
			for to := range n.N {
				var good [][]int
				greatest := math.MinInt
				for _, f := range lists(len(n.Edges), 0, 2) {
					if graph.Good(n, f, s, to) {
						good = append(good, f)
						greatest = max(greatest, graph.Value(n, f, s))
					}
				}
				for _, f := range good {
					got := pushed(n, f, s, to, 100)
					if graph.Value(n, got.flow, s) != greatest || got.increase != greatest-graph.Value(n, f, s) {
						t.Errorf("Push of %v, %v from %d to %d is %v, but there is a flow of %d", n, f, s, to, got, greatest)
					}
					checkTheorem(t, n, f, s, to, random.Intn(4))
				}
			}
		}
	}
}

// H3: a flow that is pushed by 1 at a time goes the same ways as one that is pushed at once.
func TestPushByOnes(t *testing.T) {
	random := rand.New(rand.NewSource(5))
	for range 300 {
		n := randomNet(random, 2+random.Intn(8), random.Intn(40), 9)
		s := random.Intn(n.N)
		to := (s + 1 + random.Intn(n.N-1)) % n.N
		f := randomFlow(random, n, s, to)
		at := result{f, 0, api.OK}
		for most := range 40 {
			if whole := pushed(n, f, s, to, most); !whole.equals(at) {
				t.Fatalf("Push of %v, %v from %d to %d, %d is %v, not %v", n, f, s, to, most, whole, at)
			}
			next := pushed(n, at.flow, s, to, 1)
			at = result{next.flow, at.increase + next.increase, next.e}
		}
	}
}

// roomy is a copy with memory behind its length.
func roomy[T any](list []T, behind T) []T {
	long := append(slices.Clone(list), behind, behind)
	return long[:len(list)]
}

// R3: arguments stay as they are, also behind their length, and what was answered does, whatever becomes of them.
func TestArgumentsAreLeftAlone(t *testing.T) {
	spare := edge(7, 8, 9)
	n := api.Net{N: 4, Edges: roomy(diamond.Edges, spare)}
	f := roomy([]int{1, 0, 0, 1, 1}, 77)
	var all []result
	for _, most := range []int{0, 1, 2, 100, -1} {
		all = append(all, pushed(n, f, 0, 3, most), pushed(n, f, 3, 0, most))
	}
	all = append(all, greatest(n, 0, 3), greatest(n, 3, 0), greatest(n, 1, 1))
	var before []result
	for _, r := range all {
		before = append(before, result{slices.Clone(r.flow), r.increase, r.e})
	}
	if !slices.Equal(n.Edges[:7], append(slices.Clone(diamond.Edges), spare, spare)) || !slices.Equal(f[:7], []int{1, 0, 0, 1, 1, 77, 77}) {
		t.Error("changed:", n.Edges[:7], f[:7])
	}
	for i := range f {
		f[i], n.Edges[i].Cap = 55, 0
	}
	for i, r := range all {
		if !r.equals(before[i]) {
			t.Errorf("answer %d changed with its arguments: %v, not %v", i, r, before[i])
		}
	}
}

// R3, R4: answers may be changed and extended without a change of another one, and of the arguments.
func TestAnswersAreNewMemory(t *testing.T) {
	f := roomy(make([]int, 5), 77)
	for range 2 {
		first := []result{pushed(diamond, f, 0, 3, 0), pushed(diamond, f, 0, 3, 3), greatest(diamond, 0, 3), pushed(diamond, f, 3, 0, 1)}
		second := []result{pushed(diamond, f, 0, 3, 0), pushed(diamond, f, 0, 3, 3), greatest(diamond, 0, 3), pushed(diamond, f, 3, 0, 1)}
		for _, r := range first {
			whole := r.flow[:cap(r.flow)]
			for i := range whole {
				whole[i] = 99
			}
			_ = append(r.flow, 99, 99, 99)
		}
		wants := []result{{make([]int, 5), 0, api.OK}, {[]int{2, 1, 2, 1, 0}, 3, api.OK}, {[]int{2, 2, 2, 2, 0}, 4, api.OK}, {make([]int, 5), 0, api.OK}}
		for i, want := range wants {
			if !second[i].equals(want) {
				t.Errorf("answer %d: %v, not %v", i, second[i], want)
			}
		}
		if !slices.Equal(f[:7], []int{0, 0, 0, 0, 0, 77, 77}) {
			t.Error("an argument changed with the answers:", f[:7])
		}
	}
}
