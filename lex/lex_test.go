package lex_test

import (
	"math"
	"math/rand"
	"reflect"
	"slices"
	"testing"

	"billet/api"
	"billet/flow"
	"billet/graph"
	"billet/lex"
)

// edge and way are short for tables.
func edge(from, to, limit int) api.Edge {
	return api.Edge{From: from, To: to, Cap: limit}
}

func way(count int, edges ...int) api.Way {
	return api.Way{Edges: edges, Count: count}
}

// crossed is the network of the chapter's examples.
var crossed = api.Net{N: 4, Edges: []api.Edge{edge(0, 1, 2), edge(0, 2, 2), edge(1, 3, 1), edge(2, 3, 2), edge(1, 2, 2)}}

// input is what Fill is given, and result what it answers.
type input struct {
	n     api.Net
	s, t  int
	order []int
	ways  [][]api.Way
}

type result struct {
	flow, through []int
	e             api.Errno
}

// refused is the answer to what Fill does not take.
var refused = result{nil, nil, api.ErrGraphForm}

// equals reports whether two answers are the same.
func (r result) equals(other result) bool {
	return slices.Equal(r.flow, other.flow) && slices.Equal(r.through, other.through) && r.e == other.e
}

// filled is the answer as one value.
func filled(in input) result {
	f, through, e := lex.Fill(in.n, in.s, in.t, in.order, in.ways)
	return result{f, through, e}
}

// pathsOf are the paths of the i-th source.
func (in input) pathsOf(i int) []api.Way {
	if i < len(in.ways) {
		return in.ways[i]
	}
	return nil
}

// isPath is the chapter's path of a source.
func isPath(in input, source int, path api.Way) bool {
	if path.Count < 0 || path.Count > 1000 || len(path.Edges) == 0 || path.Edges[0] != source {
		return false
	}
	visits := []int{in.s}
	for _, i := range path.Edges {
		if i < 0 || i >= len(in.n.Edges) || in.n.Edges[i].From != visits[len(visits)-1] {
			return false
		}
		visits = append(visits, in.n.Edges[i].To)
	}
	once := map[int]int{}
	for _, v := range visits {
		once[v]++
	}
	return len(once) == len(visits) && visits[len(visits)-1] == in.t
}

// isRight reports whether X1 takes an input.
func isRight(in input) bool {
	if !graph.Right(in.n) || min(in.s, in.t) < 0 || max(in.s, in.t) >= in.n.N || in.s == in.t || len(in.ways) > len(in.order) {
		return false
	}
	sorted := slices.Sorted(slices.Values(in.order))
	if len(slices.Compact(sorted)) != len(in.order) {
		return false
	}
	for i, source := range in.order {
		if source < 0 || source >= len(in.n.Edges) || in.n.Edges[source].From != in.s {
			return false
		}
		for _, path := range in.pathsOf(i) {
			if !isPath(in, source, path) {
				return false
			}
		}
	}
	return true
}

// opened is the network in which only these edges of those that leave s are open.
func opened(n api.Net, s int, open []int) api.Net {
	other := api.Net{N: n.N}
	for i, e := range n.Edges {
		if e.From == s && !slices.Contains(open, i) {
			e.Cap = 0
		}
		other.Edges = append(other.Edges, e)
	}
	return other
}

// at are the elements of f with these numbers.
func at(f []int, numbers []int) []int {
	var all []int
	for _, i := range numbers {
		all = append(all, f[i])
	}
	return all
}

// sum is of all elements.
func sum(list []int) int {
	total := 0
	for _, x := range list {
		total += x
	}
	return total
}

// fill is X1's definition.
func fill(in input) result {
	if !isRight(in) {
		return refused
	}
	f := make([]int, len(in.n.Edges))
	for i := range in.order {
		for _, path := range in.pathsOf(i) {
			by := path.Count
			for _, j := range path.Edges {
				by = min(by, in.n.Edges[j].Cap-f[j])
			}
			for _, j := range path.Edges {
				f[j] += by
			}
		}
		f, _, _ = flow.Push(opened(in.n, in.s, in.order[:i+1]), f, in.s, in.t, 1<<30)
	}
	return result{f, at(f, in.order), api.OK}
}

// check holds Fill against the definition, and against the theorem, but for what only all good flows tell.
func check(t *testing.T, in input) {
	t.Helper()
	want, got := fill(in), filled(in)
	if !got.equals(want) {
		t.Errorf("Fill of %v is %v, not %v", in, got, want)
	}
	if got.e == api.OK {
		checkTheorem(t, in, got)
	}
}

// checkTheorem holds an answer against X2.
func checkTheorem(t *testing.T, in input, got result) {
	t.Helper()
	if !graph.Good(in.n, got.flow, in.s, in.t) || len(got.through) != len(in.order) {
		t.Errorf("Fill of %v: %v is not good", in, got)
		return
	}
	for i := range in.order {
		_, most, _ := flow.Max(opened(in.n, in.s, in.order[:i+1]), in.s, in.t)
		if sum(got.through[:i+1]) != most || got.through[i] != got.flow[in.order[i]] {
			t.Errorf("Fill of %v: %v bears not %d through the first %d sources", in, got, most, i+1)
		}
	}
	if value := graph.Value(in.n, got.flow, in.s); value != sum(got.through) {
		t.Errorf("Fill of %v: %v has the value %d", in, got, value)
	}
}

// X1: the chapter's examples.
func TestTheExamples(t *testing.T) {
	for _, c := range []struct {
		order, flow []int
	}{{[]int{1, 0}, []int{1, 2, 1, 2, 0}}, {[]int{0, 1}, []int{2, 1, 1, 2, 1}}} {
		in := input{crossed, 0, 3, c.order, nil}
		if got := filled(in); !got.equals(result{c.flow, []int{2, 1}, api.OK}) {
			t.Errorf("Fill of %v is %v", in, got)
		}
	}
}

// X1: edges that leave s and are no sources of the order, or not yet, bear nothing, also where more could come to t.
func TestOnlyOpenSourcesBear(t *testing.T) {
	fan := api.Net{N: 5, Edges: []api.Edge{edge(0, 4, 3), edge(0, 1, 3), edge(0, 2, 3), edge(0, 3, 3), edge(1, 4, 2), edge(2, 4, 2), edge(3, 4, 2)}}
	for _, c := range []struct {
		n             api.Net
		order         []int
		flow, through []int
	}{
		{fan, nil, []int{0, 0, 0, 0, 0, 0, 0}, nil},
		{fan, []int{0}, []int{3, 0, 0, 0, 0, 0, 0}, []int{3}},
		{fan, []int{2}, []int{0, 0, 2, 0, 0, 2, 0}, []int{2}},
		{fan, []int{3, 1}, []int{0, 2, 0, 2, 2, 0, 2}, []int{2, 2}},
		{fan, []int{3, 0, 1, 2}, []int{3, 2, 2, 2, 2, 2, 2}, []int{2, 3, 2, 2}},
		// The way of the second source is the shorter one: it is closed until the first one has what can come to t.
		{api.Net{N: 4, Edges: []api.Edge{edge(0, 2, 2), edge(0, 1, 2), edge(1, 2, 2), edge(2, 3, 2)}}, []int{1, 0}, []int{0, 2, 2, 2}, []int{2, 0}},
		{api.Net{N: 4, Edges: []api.Edge{edge(0, 2, 2), edge(0, 1, 2), edge(1, 2, 2), edge(2, 3, 3)}}, []int{1, 0}, []int{1, 2, 2, 3}, []int{2, 1}},
		{api.Net{N: 4, Edges: []api.Edge{edge(0, 2, 2), edge(0, 1, 2), edge(1, 2, 2), edge(2, 3, 2)}}, []int{0, 1}, []int{2, 0, 0, 2}, []int{2, 0}},
		// Sources beside each other, sources without room, and sources that lead nowhere.
		{api.Net{N: 2, Edges: []api.Edge{edge(0, 1, 1), edge(0, 1, 0), edge(0, 1, 7), edge(1, 0, 9)}}, []int{2, 1, 0}, []int{1, 0, 7, 0}, []int{7, 0, 1}},
		{api.Net{N: 3, Edges: []api.Edge{edge(0, 1, 5), edge(0, 2, 5), edge(1, 0, 5)}}, []int{0, 1}, []int{0, 5, 0}, []int{0, 5}},
		// What could only come back to 0 does not go, though there is room for it.
		{api.Net{N: 3, Edges: []api.Edge{edge(0, 1, 5), edge(1, 0, 5), edge(1, 2, 1)}}, []int{0}, []int{1, 0, 1}, []int{1}},
	} {
		in := input{c.n, 0, c.n.N - 1, c.order, nil}
		if got := filled(in); !got.equals(result{c.flow, c.through, api.OK}) {
			t.Errorf("Fill of %v is %v", in, got)
		}
		check(t, in)
	}
}

// X1: what a source has is not taken back, but goes another way where a later source needs the first one.
func TestLaterSourcesMakeRoom(t *testing.T) {
	n := api.Net{N: 5, Edges: []api.Edge{edge(0, 1, 1), edge(0, 2, 1), edge(1, 3, 1), edge(2, 3, 1), edge(1, 4, 1), edge(3, 4, 1)}}
	for _, c := range []struct {
		order         []int
		ways          [][]api.Way
		flow, through []int
	}{
		{[]int{0}, [][]api.Way{{way(1, 0, 2, 5)}}, []int{1, 0, 1, 0, 0, 1}, []int{1}},
		{[]int{0, 1}, [][]api.Way{{way(1, 0, 2, 5)}}, []int{1, 1, 0, 1, 1, 1}, []int{1, 1}},
		{[]int{0, 1}, [][]api.Way{{way(1, 0, 2, 5)}, {way(1, 1, 3, 5)}}, []int{1, 1, 0, 1, 1, 1}, []int{1, 1}},
	} {
		in := input{n, 0, 4, c.order, c.ways}
		if got := filled(in); !got.equals(result{c.flow, c.through, api.OK}) {
			t.Errorf("Fill of %v is %v", in, got)
		}
	}
}

// X1: a path adds its Count or its room, whichever is less; paths come in their order, ahead of what else can go; sources beyond ways have none.
func TestPathsComeFirst(t *testing.T) {
	// From 1 three edges lead to 2: without paths the first of them is used first.
	n := api.Net{N: 3, Edges: []api.Edge{edge(0, 1, 6), edge(1, 2, 4), edge(1, 2, 3), edge(1, 2, 5), edge(0, 1, 2)}}
	for _, c := range []struct {
		order         []int
		ways          [][]api.Way
		flow, through []int
	}{
		{[]int{0}, nil, []int{6, 4, 2, 0, 0}, []int{6}},
		{[]int{0}, [][]api.Way{}, []int{6, 4, 2, 0, 0}, []int{6}},
		{[]int{0}, [][]api.Way{nil}, []int{6, 4, 2, 0, 0}, []int{6}},
		{[]int{0}, [][]api.Way{{way(0, 0, 3)}}, []int{6, 4, 2, 0, 0}, []int{6}},
		{[]int{0}, [][]api.Way{{way(1, 0, 3)}}, []int{6, 4, 1, 1, 0}, []int{6}},
		{[]int{0}, [][]api.Way{{way(5, 0, 3)}}, []int{6, 1, 0, 5, 0}, []int{6}},
		{[]int{0}, [][]api.Way{{way(6, 0, 3)}}, []int{6, 1, 0, 5, 0}, []int{6}},
		{[]int{0}, [][]api.Way{{way(1000, 0, 3)}}, []int{6, 1, 0, 5, 0}, []int{6}},
		{[]int{0}, [][]api.Way{{way(2, 0, 3), way(1, 0, 3)}}, []int{6, 3, 0, 3, 0}, []int{6}},
		{[]int{0}, [][]api.Way{{way(2, 0, 3), way(3, 0, 2)}}, []int{6, 1, 3, 2, 0}, []int{6}},
		{[]int{0}, [][]api.Way{{way(9, 0, 3), way(9, 0, 2)}}, []int{6, 0, 1, 5, 0}, []int{6}},
		{[]int{0}, [][]api.Way{{way(9, 0, 2), way(9, 0, 3)}}, []int{6, 0, 3, 3, 0}, []int{6}},
		{[]int{0}, [][]api.Way{{way(9, 0, 2), way(0, 0, 3), way(9, 0, 3), way(9, 0, 1)}}, []int{6, 0, 3, 3, 0}, []int{6}},
		{[]int{4, 0}, [][]api.Way{{way(9, 4, 3)}}, []int{6, 4, 2, 2, 2}, []int{2, 6}},
		{[]int{4, 0}, [][]api.Way{nil, {way(9, 0, 3)}}, []int{6, 3, 0, 5, 2}, []int{2, 6}},
		{[]int{0, 4}, [][]api.Way{{way(9, 0, 3)}, {way(9, 4, 2)}}, []int{6, 1, 2, 5, 2}, []int{6, 2}},
		{[]int{0, 4}, [][]api.Way{{}, {way(1, 4, 3)}}, []int{6, 4, 3, 1, 2}, []int{6, 2}},
	} {
		in := input{n, 0, 2, c.order, c.ways}
		if got := filled(in); !got.equals(result{c.flow, c.through, api.OK}) {
			t.Errorf("Fill of %v is %v", in, got)
		}
		check(t, in)
	}
}

// X1: the room of a path is the least of its edges, wherever on the path that is.
func TestTheNarrowestEdgeCounts(t *testing.T) {
	for place := range 4 {
		for narrow := range 5 {
			n := api.Net{N: 5}
			for i := range 4 {
				n.Edges = append(n.Edges, edge(i, i+1, 4))
			}
			n.Edges[place].Cap = narrow
			n.Edges = append(n.Edges, edge(1, 4, 9))
			for count := range 7 {
				by := min(narrow, count)
				rest := n.Edges[0].Cap - by // the short way bears it, and has room for it
				in := input{n, 0, 4, []int{0}, [][]api.Way{{way(count, 0, 1, 2, 3)}}}
				if got := filled(in); !got.equals(result{[]int{by + rest, by, by, by, rest}, []int{by + rest}, api.OK}) {
					t.Errorf("Fill of %v is %v", in, got)
				}
			}
		}
	}
}

// long is a network in which the only way from 63 to 0 has all vertices, with edges back, and its path.
func long(limit int) (api.Net, []int) {
	n := api.Net{N: 64}
	var path []int
	for v := 63; v > 0; v-- {
		path = append(path, len(n.Edges))
		n.Edges = append(n.Edges, edge(v, v-1, limit), edge(v-1, v, limit))
	}
	return n, path
}

// X1: the greatest network, the most sources, the longest path, the greatest Cap, and the greatest Counts.
func TestTheLimits(t *testing.T) {
	n, path := long(1000)
	want := make([]int, len(n.Edges))
	for _, i := range path {
		want[i] = 1000
	}
	for _, count := range []int{0, 1, 999, 1000} {
		in := input{n, 63, 0, path[:1], [][]api.Way{{way(count, path...)}}}
		if got := filled(in); !got.equals(result{want, []int{1000}, api.OK}) {
			t.Errorf("Fill with the longest path, %d is %v", count, got)
		}
	}
	for _, count := range []int{-1, 1001, math.MinInt, math.MaxInt} {
		if got := filled(input{n, 63, 0, path[:1], [][]api.Way{{way(count, path...)}}}); !got.equals(refused) {
			t.Errorf("Fill with the longest path, %d is %v", count, got)
		}
	}
	wide := api.Net{N: 64, Edges: slices.Repeat([]api.Edge{edge(5, 9, 1000)}, 256)}
	var order []int
	var ways [][]api.Way
	for i := range 256 {
		order = append(order, 255-i)
		ways = append(ways, []api.Way{way(1000, 255-i), way(1000, 255-i)})
	}
	full := slices.Repeat([]int{1000}, 256)
	for _, w := range [][][]api.Way{nil, ways[:100], ways} {
		if got := filled(input{wide, 5, 9, order, w}); !got.equals(result{full, full, api.OK}) {
			t.Errorf("Fill of 256 sources with %d ways is %v", len(w), got)
		}
	}
	if got := filled(input{wide, 5, 9, append(order, 0), nil}); !got.equals(refused) {
		t.Errorf("Fill of 257 sources is %v", got)
	}
	if got := filled(input{wide, 9, 5, nil, nil}); !got.equals(result{make([]int, 256), nil, api.OK}) {
		t.Errorf("Fill without sources is %v", got)
	}
	if got := filled(input{api.Net{N: 2}, 1, 0, nil, [][]api.Way{}}); !got.equals(result{nil, nil, api.OK}) {
		t.Errorf("Fill without edges is %v", got)
	}
}

// X1, R1, R2: vertices, orders and numbers of ways that are not taken.
func TestWrongOrdersAreRefused(t *testing.T) {
	for _, in := range []input{
		{crossed, 0, 0, nil, nil}, {crossed, 3, 3, nil, nil}, {crossed, -1, 3, nil, nil}, {crossed, 0, -1, nil, nil}, {crossed, 4, 3, nil, nil}, {crossed, 0, 4, nil, nil}, {crossed, -1, -1, nil, nil}, {crossed, math.MinInt, math.MaxInt, nil, nil}, {crossed, 0, 1 << 32, nil, nil}, {crossed, 3, 3, []int{0}, nil}, {crossed, 0, 0, []int{0, 1}, nil}, {crossed, 0, 7, []int{0, 1}, nil},
		{crossed, 0, 3, []int{2}, nil}, {crossed, 0, 3, []int{0, 4}, nil}, {crossed, 0, 3, []int{3, 1}, nil}, {crossed, 1, 3, []int{0}, nil}, {crossed, 2, 3, []int{1}, nil},
		{crossed, 0, 3, []int{5}, nil}, {crossed, 0, 3, []int{-1}, nil}, {crossed, 0, 3, []int{0, 1, 5}, nil}, {crossed, 0, 3, []int{0, -1}, nil}, {crossed, 0, 3, []int{math.MinInt}, nil}, {crossed, 0, 3, []int{math.MaxInt}, nil}, {crossed, 0, 3, []int{1 << 32}, nil}, {api.Net{N: 2}, 0, 1, []int{0}, nil},
		{crossed, 0, 3, []int{0, 0}, nil}, {crossed, 0, 3, []int{1, 0, 1}, nil}, {crossed, 0, 3, []int{0, 1, 1}, nil}, {crossed, 0, 3, make([]int, 1<<20), nil},
		{crossed, 0, 3, nil, [][]api.Way{nil}}, {crossed, 0, 3, []int{0}, [][]api.Way{nil, nil}}, {crossed, 0, 3, []int{0, 1}, [][]api.Way{{}, {}, {}}}, {crossed, 0, 3, nil, [][]api.Way{{way(1, 0, 2)}}}, {crossed, 0, 3, []int{0}, [][]api.Way{{way(1, 0, 2)}, {way(1, 1, 3)}}}, {crossed, 0, 3, []int{0}, make([][]api.Way, 1<<20)},
	} {
		if got := filled(in); !got.equals(refused) {
			t.Errorf("Fill of %v is %v", in, got)
		}
		check(t, in)
	}
	for _, order := range [][]int{{0}, {1}, {0, 1}, {1, 0}} {
		if got := filled(input{crossed, 0, 3, order, make([][]api.Way, len(order))}); got.e != api.OK {
			t.Errorf("Fill of the order %v is %v", order, got)
		}
	}
}

// looped has edges back to 0, a ring, and edges on from 3.
var looped = api.Net{N: 5, Edges: []api.Edge{edge(0, 1, 5), edge(0, 2, 5), edge(1, 2, 5), edge(2, 1, 5), edge(1, 0, 5), edge(2, 3, 5), edge(3, 4, 5), edge(4, 3, 5), edge(0, 3, 5), edge(4, 1, 5), edge(1, 4, 0), edge(3, 0, 5)}}

// X1: what is a path of a source from 0 to 3, and what is not.
func TestWhatIsAPath(t *testing.T) {
	for _, path := range []api.Way{
		way(1, 0, 2, 5), way(0, 0, 2, 5), way(1000, 0, 2, 5), way(1, 0, 10, 7), // the last one has no room
	} {
		check(t, input{looped, 0, 3, []int{0}, [][]api.Way{{path}}})
		if got := filled(input{looped, 0, 3, []int{0}, [][]api.Way{{path}}}); got.e != api.OK {
			t.Errorf("%v is refused", path)
		}
	}
	for _, path := range []api.Way{
		way(-1, 0, 2, 5), way(1001, 0, 2, 5), way(math.MinInt, 0, 2, 5), way(math.MaxInt, 0, 2, 5), way(1<<32, 0, 2, 5), // the Count
		way(1), way(0), way(1, 1, 5), way(1, 8), way(1, 2, 5), way(1, 5), // the first edge
		way(1, 0), way(1, 0, 2), way(1, 0, 10), // it does not end in 3
		way(1, 0, 5), way(1, 0, 3), way(1, 0, 2, 6), way(1, 0, 2, 2, 5), way(1, 0, 0, 2, 5), way(1, 0, 2, 5, 5), way(1, 0, 7), // an edge does not begin where the one ahead of it ends
		way(1, 0, -1), way(1, 0, 12), way(1, 0, 2, -1), way(1, 0, 2, 12), way(1, 0, math.MinInt), way(1, 0, math.MaxInt), way(1, 0, 2, 5, -1), way(1, 0, 2, 5, 12), way(1, -1), way(1, 12), // there is no such edge
		way(1, 0, 2, 3, 2, 5), way(1, 0, 2, 3, 10, 7), // a vertex is visited twice
		way(1, 0, 4, 1, 5), way(1, 0, 4, 8), way(1, 0, 2, 5, 11, 8), way(1, 0, 4, 0, 2, 5), way(1, 0, 4), way(1, 0, 2, 5, 11), // 0 is visited again
		way(1, 0, 2, 5, 6, 7), way(1, 0, 2, 5, 6), // 3 is visited on the way
		way(1, slices.Repeat([]int{0}, 1<<20)...),
	} {
		in := input{looped, 0, 3, []int{0}, [][]api.Way{{path}}}
		if got := filled(in); !got.equals(refused) {
			t.Errorf("%v is a path: %v", path, got)
		}
		check(t, in)
		good, other := way(1, 0, 2, 5), way(1, 1, 5)
		for _, ways := range [][][]api.Way{{{good, path}}, {{path, good}}, {{good, path, good}, {other}}, {{good}, {other, path}}, {nil, {path}}, {{path}, nil}} {
			in := input{looped, 0, 3, []int{0, 1}, ways}
			check(t, in)
			if got := filled(in); !got.equals(refused) && !isPath(in, 1, path) {
				t.Errorf("%v is taken: %v", ways, got)
			}
		}
	}
	// Each source has paths of its own, by its place in the order.
	for _, c := range []struct {
		order []int
		ways  [][]api.Way
		want  api.Errno
	}{
		{[]int{1, 0}, [][]api.Way{{way(1, 1, 5)}, {way(1, 0, 2, 5)}}, api.OK},
		{[]int{1, 0}, [][]api.Way{{way(1, 0, 2, 5)}, {way(1, 1, 5)}}, api.ErrGraphForm},
		{[]int{0, 8}, [][]api.Way{nil, {way(1, 8), way(1, 8)}}, api.OK},
		{[]int{0, 8}, [][]api.Way{{way(1, 8)}}, api.ErrGraphForm},
		{[]int{8, 1}, [][]api.Way{{way(1, 8)}, {way(1, 1, 3, 10, 7)}}, api.OK},
	} {
		in := input{looped, 0, 3, c.order, c.ways}
		check(t, in)
		if got := filled(in); got.e != c.want {
			t.Errorf("Fill of %v is %v", in, got)
		}
	}
}

// X1, R1, R2: networks just beyond the limits, or far beyond, are refused.
func TestWrongNetsAreRefused(t *testing.T) {
	all := []api.Net{
		{}, {N: 1}, {N: 65}, {N: -1}, {N: math.MinInt}, {N: math.MaxInt}, {N: 1<<32 + 2},
		{N: 2, Edges: slices.Repeat([]api.Edge{edge(0, 1, 1)}, 257)}, {N: 64, Edges: make([]api.Edge, 1<<20)},
		{N: 1, Edges: []api.Edge{edge(0, 1, 1)}}, {N: 65, Edges: []api.Edge{edge(0, 1, 1)}},
	}
	ok := edge(0, 1, 5)
	for _, e := range []api.Edge{
		edge(0, 0, 1), edge(-1, 0, 1), edge(0, -1, 1), edge(3, 0, 1), edge(0, 3, 1), edge(0, 1, -1), edge(0, 1, 1001),
		edge(math.MinInt, 0, 1), edge(0, math.MaxInt, 1), edge(0, 1, math.MinInt), edge(0, 1, math.MaxInt),
	} {
		all = append(all, api.Net{N: 3, Edges: []api.Edge{e}}, api.Net{N: 3, Edges: []api.Edge{e, ok}}, api.Net{N: 3, Edges: []api.Edge{ok, e}})
	}
	for i, n := range all {
		for _, s := range []int{-1, 0, 1, n.N, n.N - 1, math.MinInt, math.MaxInt} {
			for _, to := range []int{-1, 0, 1, 2, n.N, math.MaxInt} {
				for _, order := range [][]int{nil, {0}, {1}, {0, 1}} {
					for _, ways := range [][][]api.Way{nil, {{way(1, 0)}}} {
						if got := filled(input{n, s, to, order, ways}); !got.equals(refused) {
							t.Errorf("%d of the wrong ones, from %d to %d: Fill of %v is %v", i, s, to, order, got)
						}
					}
				}
			}
		}
	}
}

// randomNet is valid, and has so many vertices and edges; some of the edges lie beside each other, or against each other.
func randomNet(random *rand.Rand, vertices, many, most int) api.Net {
	n := api.Net{N: vertices}
	for range many {
		from := random.Intn(vertices)
		to := (from + 1 + random.Intn(vertices-1)) % vertices
		n.Edges = append(n.Edges, edge(from, to, random.Intn(most+1)))
	}
	return n
}

// sources are the edges that leave s, mixed, and perhaps not all.
func sources(random *rand.Rand, n api.Net, s int) []int {
	var all []int
	for i, e := range n.Edges {
		if e.From == s {
			all = append(all, i)
		}
	}
	random.Shuffle(len(all), func(i, j int) { all[i], all[j] = all[j], all[i] })
	if random.Intn(3) == 0 {
		all = all[:random.Intn(len(all)+1)]
	}
	return all
}

// walk is a random path of a source, over edges that may be used, if it finds one: rings are cut out.
func walk(random *rand.Rand, in input, source int, may func(int) bool) ([]int, bool) {
	path := []int{source}
	for range 20 * in.n.N {
		end := in.n.Edges[path[len(path)-1]].To
		for i, j := range path {
			if in.n.Edges[j].To == end {
				path = path[:i+1]
				break
			}
		}
		if end == in.t {
			return path, true
		}
		var next []int
		for i, e := range in.n.Edges {
			if e.From == end && e.To != in.s && may(i) {
				next = append(next, i)
			}
		}
		if end == in.s || len(next) == 0 {
			break
		}
		path = append(path, next[random.Intn(len(next))])
	}
	return nil, false
}

// randomWays are paths of the sources of an input's order, some with Counts beyond their room.
func randomWays(random *rand.Rand, in input) [][]api.Way {
	var all [][]api.Way
	for _, source := range in.order[:random.Intn(len(in.order)+1)] {
		var paths []api.Way
		for range random.Intn(4) {
			if path, found := walk(random, in, source, func(int) bool { return true }); found {
				paths = append(paths, way(random.Intn([]int{2, 5, 1001}[random.Intn(3)]), path...))
			}
		}
		all = append(all, paths)
	}
	return all
}

// randomInput is one that is taken.
func randomInput(random *rand.Rand, vertices, many, most int) input {
	in := input{n: randomNet(random, vertices, many, most), s: random.Intn(vertices)}
	in.t = (in.s + 1 + random.Intn(vertices-1)) % vertices
	in.order = sources(random, in.n, in.s)
	in.ways = randomWays(random, in)
	return in
}

// X1, X2: networks of every size, with paths or without, against the definition and the theorem.
func TestRandomNets(t *testing.T) {
	random := rand.New(rand.NewSource(1))
	for range 6000 {
		vertices := 2 + random.Intn(6)
		if random.Intn(10) == 0 {
			vertices = 2 + random.Intn(63)
		}
		in := randomInput(random, vertices, random.Intn(min(4*vertices, 256)+1), []int{1, 3, 1000}[random.Intn(3)])
		if !isRight(in) {
			t.Fatal("not right:", in)
		}
		check(t, in)
		in.ways = nil
		check(t, in)
	}
}

// spoil changes something at random: what comes of it may be taken or not.
func spoil(random *rand.Rand, in *input) {
	by := []int{-1, 1, 2, -1000, 1000}[random.Intn(5)]
	switch random.Intn(8) {
	case 0:
		in.s += by
	case 1:
		in.t += by
	case 2:
		in.order = append(in.order, random.Intn(len(in.n.Edges)+2)-1)
	case 3:
		if len(in.order) > 0 {
			in.order[random.Intn(len(in.order))] += by
		}
	case 4:
		in.ways = append(in.ways, nil)
	case 5:
		e := &in.n.Edges[random.Intn(len(in.n.Edges))]
		e.From, e.To = e.To, e.From
	default:
		if len(in.ways) > 0 {
			paths := in.ways[random.Intn(len(in.ways))]
			if len(paths) > 0 {
				spoilPath(random, &paths[random.Intn(len(paths))], by)
			}
		}
	}
}

// spoilPath changes something on a path.
func spoilPath(random *rand.Rand, path *api.Way, by int) {
	place := random.Intn(len(path.Edges))
	switch random.Intn(5) {
	case 0:
		path.Count += by
	case 1:
		path.Edges[place] += by
	case 2:
		path.Edges = slices.Delete(path.Edges, place, place+1)
	case 3:
		path.Edges = slices.Insert(path.Edges, place, path.Edges[random.Intn(len(path.Edges))])
	case 4:
		path.Edges = append(path.Edges, path.Edges[:place]...)
	}
}

// X1: inputs that are nearly right.
func TestSpoiledInputs(t *testing.T) {
	random := rand.New(rand.NewSource(2))
	taken := 0
	for range 20000 {
		vertices := 2 + random.Intn(5)
		in := randomInput(random, vertices, 1+random.Intn(5*vertices), 3)
		spoil(random, &in)
		check(t, in)
		if isRight(in) {
			taken++
		}
	}
	if taken < 2000 || taken > 18000 {
		t.Error("of 20000 were right:", taken)
	}
}

// lists are all that have so many elements, each from low to high.
func lists(long, low, high int) [][]int {
	all := [][]int{nil}
	for range long {
		var longer [][]int
		for _, list := range all {
			for x := low; x <= high; x++ {
				longer = append(longer, append(slices.Clone(list), x))
			}
		}
		all = longer
	}
	return all
}

// entering is how much of a flow comes back to s.
func entering(n api.Net, f []int, s int) int {
	total := 0
	for i, e := range n.Edges {
		if e.To == s {
			total += f[i]
		}
	}
	return total
}

// X2: in small networks, no good flow of which nothing comes back to s is greater in the lexicographic order.
func TestNoFlowIsGreater(t *testing.T) {
	random := rand.New(rand.NewSource(3))
	for range 1500 {
		in := randomInput(random, 2+random.Intn(3), random.Intn(7), 2)
		got := filled(in)
		greatest := slices.Repeat([]int{-1}, len(in.order))
		for _, f := range lists(len(in.n.Edges), 0, 2) {
			if graph.Good(in.n, f, in.s, in.t) && entering(in.n, f, in.s) == 0 {
				if through := at(f, in.order); slices.Compare(through, greatest) > 0 {
					greatest = through
				}
			}
		}
		if got.e != api.OK || !slices.Equal(got.through, greatest) {
			t.Errorf("Fill of %v is %v, but there is a flow with %v", in, got, greatest)
		}
	}
}

// X2: whatever paths are given, each source bears the same.
func TestPathsChangeNoSource(t *testing.T) {
	random := rand.New(rand.NewSource(4))
	for range 1000 {
		in := randomInput(random, 2+random.Intn(8), random.Intn(40), 9)
		first := filled(in)
		for range 5 {
			in.ways = randomWays(random, in)
			if got := filled(in); !slices.Equal(got.through, first.through) {
				t.Errorf("Fill of %v is %v, not %v", in, got, first)
			}
		}
	}
}

// taken are paths that make up a flow, of which nothing comes back to s, but for its rings; and what they bear together.
func taken(random *rand.Rand, in input, f []int) ([][]api.Way, []int) {
	left, together := slices.Clone(f), make([]int, len(f))
	var ways [][]api.Way
	for _, source := range in.order {
		var paths []api.Way
		for left[source] > 0 {
			path, found := walk(random, in, source, func(i int) bool { return left[i] > 0 })
			if !found {
				continue // this walk went round in rings for too long
			}
			count := 1 + random.Intn(slices.Min(at(left, path)))
			for _, i := range path {
				left[i] -= count
				together[i] += count
			}
			paths = append(paths, way(count, path...))
		}
		ways = append(ways, paths)
	}
	return ways, together
}

// X2: the paths of a flow that is as great already, in parts and in any order, are what comes of them.
func TestGreatFlowsStay(t *testing.T) {
	random := rand.New(rand.NewSource(5))
	moved := 0
	for range 1500 {
		in := randomInput(random, 2+random.Intn(10), random.Intn(60), []int{1, 4, 1000}[random.Intn(3)])
		first := filled(in)
		ways, together := taken(random, in, first.flow)
		in.ways = nil
		if plain := filled(in); !slices.Equal(plain.flow, together) {
			moved++ // the paths matter: without them another flow comes
		}
		in.ways = ways
		if got := filled(in); !got.equals(result{together, first.through, api.OK}) {
			t.Errorf("Fill of %v is %v, not %v", in, got, together)
		}
	}
	if moved < 100 {
		t.Error("only so many flows differ from those without paths:", moved)
	}
}

// roomy is a copy with memory behind its length.
func roomy[T any](list []T, behind T) []T {
	long := append(slices.Clone(list), behind, behind)
	return long[:len(list)]
}

// spacious is an input with memory behind all its lists.
func spacious() input {
	n := api.Net{N: 4, Edges: roomy(crossed.Edges, edge(7, 8, 9))}
	first := roomy([]api.Way{{Edges: roomy([]int{0, 4, 3}, 66), Count: 2}, {Edges: roomy([]int{0, 2}, 66), Count: 9}}, way(5, 5))
	second := roomy([]api.Way{{Edges: roomy([]int{1, 3}, 66), Count: 1}}, way(5, 5))
	return input{n, 0, 3, roomy([]int{0, 1}, 77), roomy([][]api.Way{first, second}, []api.Way{way(5, 5)})}
}

// whole is an input with what is behind the lengths of its lists.
func whole(in input) input {
	all := input{api.Net{N: in.n.N, Edges: in.n.Edges[:cap(in.n.Edges)]}, in.s, in.t, in.order[:cap(in.order)], nil}
	for i, paths := range in.ways[:cap(in.ways)] {
		all.ways = append(all.ways, nil)
		for _, path := range paths[:cap(paths)] {
			all.ways[i] = append(all.ways[i], way(path.Count, path.Edges[:cap(path.Edges)]...))
		}
	}
	return all
}

// clone is a copy of an answer.
func (r result) clone() result {
	return result{slices.Clone(r.flow), slices.Clone(r.through), r.e}
}

// R3: arguments stay as they are, also behind their length, and what was answered does, whatever becomes of them.
func TestArgumentsAreLeftAlone(t *testing.T) {
	in, wrong := spacious(), spacious()
	wrong.ways[1][0].Edges[1] = 2
	before, wrongBefore := spacious(), spacious()
	wrongBefore.ways[1][0].Edges[1] = 2
	answers := []result{filled(in), filled(wrong), filled(input{in.n, 0, 3, in.order, nil}), filled(input{in.n, 0, 3, in.order[:1], in.ways[:1]}), filled(input{in.n, 0, 3, in.order[:0], nil})}
	if !reflect.DeepEqual(whole(in), whole(before)) || !reflect.DeepEqual(whole(wrong), whole(wrongBefore)) {
		t.Error("changed:", whole(in), whole(wrong))
	}
	wants := []result{{[]int{2, 1, 1, 2, 1}, []int{2, 1}, api.OK}, refused, {[]int{2, 1, 1, 2, 1}, []int{2, 1}, api.OK}, {[]int{2, 0, 0, 2, 2}, []int{2}, api.OK}, {[]int{0, 0, 0, 0, 0}, nil, api.OK}}
	for i := range in.n.Edges {
		in.n.Edges[i].Cap = 0
	}
	for i := range in.order {
		in.order[i] = 55
		in.ways[i][0].Edges[0], in.ways[i][0].Count = 55, 55
	}
	for i, want := range wants {
		if !answers[i].equals(want) {
			t.Errorf("answer %d: %v, not %v", i, answers[i], want)
		}
	}
}

// R3, R4: answers may be changed and extended without a change of another one, and of the arguments; nothing is kept between calls.
func TestAnswersAreNewMemory(t *testing.T) {
	inputs := []input{spacious(), {crossed, 0, 3, []int{1, 0}, nil}, {crossed, 0, 3, nil, nil}, {crossed, 0, 3, []int{0}, nil}, {crossed, 0, 3, []int{0, 0}, nil}, {api.Net{N: 2}, 0, 1, nil, nil}}
	for _, in := range inputs {
		first, second := filled(in), filled(in)
		before := second.clone()
		if !first.equals(second) {
			t.Errorf("Fill of %v twice: %v, %v", in, first, second)
		}
		through := slices.Clone(first.through)
		spread(first.flow)
		if !slices.Equal(first.through, through) {
			t.Errorf("Fill of %v: the lists of an answer share memory", in)
		}
		spread(first.through)
		if !second.equals(before) {
			t.Errorf("Fill of %v: answers share memory", in)
		}
		check(t, in)
	}
	if !reflect.DeepEqual(whole(inputs[0]), whole(spacious())) || !slices.Equal(crossed.Edges, spacious().n.Edges) {
		t.Error("an argument changed with the answers")
	}
}

// spread changes a list, and what is behind its length.
func spread(list []int) {
	all := list[:cap(list)]
	for i := range all {
		all[i] = 99
	}
	_ = append(list, 99, 99)
}
