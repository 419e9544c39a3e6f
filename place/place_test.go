package place_test

import (
	"math"
	"math/rand"
	"reflect"
	"slices"
	"strconv"
	"strings"
	"testing"
	"unsafe"

	"billet/api"
	"billet/label"
	"billet/lex"
	"billet/place"
)

// work, node and bind are short for tables.
func work(id string, want, prio, perNode, perCell int, selector string) api.Work {
	return api.Work{ID: id, Want: want, Prio: prio, PerNode: perNode, PerCell: perCell, Selector: selector}
}

func node(id string, cell, slots int, labels string) api.Node {
	return api.Node{ID: id, Cell: cell, Slots: slots, Labels: labels}
}

func cordoned(id string, cell, slots int) api.Node {
	return api.Node{ID: id, Cell: cell, Slots: slots, Cordoned: true}
}

func bind(work, node string, count int) api.Bind {
	return api.Bind{Work: work, Node: node, Count: count}
}

// problem is short for one with these workloads and nodes.
func problem(works []api.Work, nodes ...api.Node) api.Problem {
	return api.Problem{Works: works, Nodes: nodes}
}

// free is a workload that only its Want and the nodes' Slots limit.
func free(id string, want, prio int) api.Work {
	return work(id, want, prio, 16, 16, "")
}

// answer is what Solve answers.
type answer struct {
	l []api.Bind
	e api.Errno
}

// refused is the answer to a problem that is not valid.
var refused = answer{nil, api.ErrPlaceForm}

// equals reports whether two answers are the same.
func (a answer) equals(other answer) bool {
	return slices.Equal(a.l, other.l) && a.e == other.e
}

// solved is the answer as one value.
func solved(p api.Problem, now []api.Bind) answer {
	l, e := place.Solve(p, now)
	return answer{l, e}
}

// isBetween reports whether x is from low to high.
func isBetween(x, low, high int) bool {
	return low <= x && x <= high
}

// isWork and isNode are the chapter's valid workloads and nodes.
func isWork(w api.Work) bool {
	numbers := isBetween(w.Want, 0, 16) && isBetween(w.Prio, 0, 9) && isBetween(w.PerNode, 1, 16) && isBetween(w.PerCell, 1, 16)
	return numbers && label.IsName(w.ID) && label.IsSelector(w.Selector)
}

func isNode(n api.Node) bool {
	return label.IsName(n.ID) && isBetween(n.Cell, 0, 2) && isBetween(n.Slots, 0, 4) && label.IsLabels(n.Labels)
}

// ascends reports whether each text is less than the one behind it.
func ascends(texts []string) bool {
	return slices.IsSorted(texts) && len(slices.Compact(slices.Clone(texts))) == len(texts)
}

// isRight is the chapter's valid problem.
func isRight(p api.Problem) bool {
	var works, nodes []string
	for _, w := range p.Works {
		if !isWork(w) {
			return false
		}
		works = append(works, w.ID)
	}
	for _, n := range p.Nodes {
		if !isNode(n) {
			return false
		}
		nodes = append(nodes, n.ID)
	}
	return len(works) <= 8 && len(nodes) <= 8 && ascends(works) && ascends(nodes)
}

// isUsable is the chapter's usable node.
func isUsable(w api.Work, n api.Node) bool {
	matches, e := label.Match(w.Selector, n.Labels)
	return isWork(w) && isNode(n) && e == api.OK && matches && !n.Cordoned
}

// find is the workload and the node that a bind names, if p has both.
func find(p api.Problem, b api.Bind) (api.Work, api.Node, bool) {
	i := slices.IndexFunc(p.Works, func(w api.Work) bool { return w.ID == b.Work })
	j := slices.IndexFunc(p.Nodes, func(n api.Node) bool { return n.ID == b.Node })
	if i < 0 || j < 0 {
		return api.Work{}, api.Node{}, false
	}
	return p.Works[i], p.Nodes[j], true
}

// total is the Counts of the binds that are taken.
func total(l []api.Bind, taken func(api.Bind) bool) int {
	sum := 0
	for _, b := range l {
		if taken(b) {
			sum += b.Count
		}
	}
	return sum
}

// isWithin reports whether the sums of binds that are right by themselves are within the limits.
func isWithin(p api.Problem, l []api.Bind) bool {
	for _, w := range p.Works {
		if total(l, func(b api.Bind) bool { return b.Work == w.ID }) > w.Want {
			return false
		}
		for cell := range 3 {
			inCell := func(b api.Bind) bool {
				_, n, _ := find(p, b)
				return b.Work == w.ID && n.Cell == cell
			}
			if total(l, inCell) > w.PerCell {
				return false
			}
		}
	}
	for _, n := range p.Nodes {
		if total(l, func(b api.Bind) bool { return b.Node == n.ID }) > n.Slots {
			return false
		}
	}
	return true
}

// fits is the chapter's definition.
func fits(p api.Problem, l []api.Bind) bool {
	if !isRight(p) {
		return false
	}
	for i, b := range l {
		w, n, found := find(p, b)
		if !found || !isUsable(w, n) || !isBetween(b.Count, 1, w.PerNode) {
			return false
		}
		if i > 0 && (b.Work < l[i-1].Work || b.Work == l[i-1].Work && b.Node <= l[i-1].Node) {
			return false
		}
	}
	return isWithin(p, l)
}

// order and counts are P1's definitions.
func order(p api.Problem) []int {
	if !isRight(p) {
		return nil
	}
	var all []int
	for prio := 9; prio >= 0; prio-- {
		for i, w := range p.Works {
			if w.Prio == prio {
				all = append(all, i)
			}
		}
	}
	return all
}

func counts(p api.Problem, l []api.Bind) []int {
	if !isRight(p) {
		return nil
	}
	var all []int
	for _, w := range p.Works {
		sum := 0
		for _, b := range l {
			if b.Work == w.ID && b.Count > 0 {
				sum += min(b.Count, 1000)
			}
		}
		all = append(all, sum)
	}
	return all
}

// network is P2's, with names: of vertices, and of edges by the vertices of both ends.
type network struct {
	vertices []string
	edges    [][2]string
	caps     []int
}

// join adds an edge.
func (n *network) join(from, to string, limit int) {
	n.edges, n.caps = append(n.edges, [2]string{from, to}), append(n.caps, limit)
}

// net is the network without names.
func (n network) net() api.Net {
	all := api.Net{N: len(n.vertices)}
	for i, e := range n.edges {
		all.Edges = append(all.Edges, api.Edge{From: slices.Index(n.vertices, e[0]), To: slices.Index(n.vertices, e[1]), Cap: n.caps[i]})
	}
	return all
}

// path is the numbers of the edges between vertices one behind the other.
func (n network) path(vertices ...string) []int {
	var all []int
	for i := range len(vertices) - 1 {
		all = append(all, slices.Index(n.edges, [2]string{vertices[i], vertices[i+1]}))
	}
	return all
}

// inCell names the vertex of a workload and a cell; those of workloads and nodes are named by a sign and the ID.
func inCell(w api.Work, cell int) string {
	return "w" + w.ID + "/" + strconv.Itoa(cell)
}

// networkOf is P2's network of a valid problem.
func networkOf(p api.Problem) network {
	all := network{vertices: []string{"beginning", "end"}}
	for _, w := range p.Works {
		all.vertices = append(all.vertices, "w"+w.ID)
		all.join("beginning", "w"+w.ID, w.Want)
	}
	for _, w := range p.Works {
		for cell := range 3 {
			all.vertices = append(all.vertices, inCell(w, cell))
			all.join("w"+w.ID, inCell(w, cell), w.PerCell)
		}
	}
	for _, w := range p.Works {
		for _, n := range p.Nodes {
			if isUsable(w, n) {
				all.join(inCell(w, n.Cell), "n"+n.ID, w.PerNode)
			}
		}
	}
	for _, n := range p.Nodes {
		all.vertices = append(all.vertices, "n"+n.ID)
		all.join("n"+n.ID, "end", n.Slots)
	}
	return all
}

// ways are P2's paths of a workload.
func ways(p api.Problem, all network, w api.Work, now []api.Bind) []api.Way {
	var paths []api.Way
	for _, b := range now {
		if _, n, found := find(p, b); found && b.Work == w.ID && isUsable(w, n) && b.Count >= 1 {
			edges := all.path("beginning", "w"+w.ID, inCell(w, n.Cell), "n"+n.ID, "end")
			paths = append(paths, api.Way{Edges: edges, Count: min(b.Count, 1000)})
		}
	}
	return paths
}

// solve is P2's definition.
func solve(p api.Problem, now []api.Bind) answer {
	if !isRight(p) {
		return refused
	}
	all := networkOf(p)
	var paths [][]api.Way
	for _, i := range order(p) {
		paths = append(paths, ways(p, all, p.Works[i], now))
	}
	flow, _, e := lex.Fill(all.net(), 0, 1, order(p), paths)
	if e != api.OK {
		return answer{nil, e}
	}
	var l []api.Bind
	for i, edge := range all.edges {
		from, cell, parted := strings.Cut(edge[0], "/")
		if parted && cell != "" && flow[i] > 0 {
			l = append(l, bind(from[1:], edge[1][1:], flow[i]))
		}
	}
	return answer{l, api.OK}
}

// check holds all functions against the definitions, and Solve against what P3 says of every answer.
func check(t *testing.T, p api.Problem, now []api.Bind) {
	t.Helper()
	if got, want := place.Right(p), isRight(p); got != want {
		t.Errorf("Right of %v is %v", p, got)
	}
	if got, want := place.Order(p), order(p); !slices.Equal(got, want) {
		t.Errorf("Order of %v is %v, not %v", p, got, want)
	}
	if got, want := place.Counts(p, now), counts(p, now); !slices.Equal(got, want) {
		t.Errorf("Counts of %v in %v is %v, not %v", p, now, got, want)
	}
	if got, want := place.Fits(p, now), fits(p, now); got != want {
		t.Errorf("Fits of %v in %v is %v", now, p, got)
	}
	for _, w := range p.Works {
		for _, n := range p.Nodes {
			if got, want := place.Usable(w, n), isUsable(w, n); got != want {
				t.Errorf("Usable of %v and %v is %v", w, n, got)
			}
		}
	}
	got, want := solved(p, now), solve(p, now)
	if !got.equals(want) {
		t.Errorf("Solve of %v, now %v, is %v, not %v", p, now, got, want)
	}
	if got.e == api.OK && !fits(p, got.l) {
		t.Errorf("Solve of %v, now %v, is %v, which does not fit", p, now, got)
	}
}

// small is the problem of the chapter's example.
var small = problem([]api.Work{work("a", 3, 1, 1, 16, ""), work("b", 2, 5, 1, 16, "")}, node("m", 0, 1, ""), node("n", 0, 2, ""))

// P1, P2: the chapter's example.
func TestTheExample(t *testing.T) {
	want := []api.Bind{bind("a", "n", 1), bind("b", "m", 1), bind("b", "n", 1)}
	if got := solved(small, nil); !got.equals(answer{want, api.OK}) {
		t.Error("Solve:", got)
	}
	if got := place.Order(small); !slices.Equal(got, []int{1, 0}) {
		t.Error("Order:", got)
	}
	if got := place.Counts(small, want); !slices.Equal(got, []int{1, 2}) {
		t.Error("Counts:", got)
	}
	if !place.Right(small) || !place.Fits(small, want) {
		t.Error("Right or Fits")
	}
	check(t, small, nil)
	check(t, small, want)
}

// numbers are from low to high, some of them, and some beyond.
func numbers(low, high int) (good, bad []int) {
	for x := low; x <= high; x++ {
		good = append(good, x)
	}
	return good, []int{low - 1, high + 1, high + 100, -high - 5, low + 1<<32, low + 1<<8, math.MinInt, math.MaxInt}
}

// someNames are names, and texts that are nearly some.
func someNames() (good, bad []string) {
	return []string{"a", "z", "0", "9", "web1", "abcdefghijkl", "000000000000"},
		[]string{"", "A", "Z", "a b", "a-b", "a=", "!a", "a,b", "abcdefghijklm", "é", "a\x00", "`", "{", "/", ":", " a", strings.Repeat("a", 1000)}
}

// oneWork checks for a workload whether all functions take it, or refuse it.
func oneWork(t *testing.T, w api.Work, ok bool) {
	t.Helper()
	n := node("n", 0, 1, "")
	alone, both := problem([]api.Work{w}), problem([]api.Work{w}, n)
	behind := problem([]api.Work{free("", 1, 0), w}) // an ID that is less than any, but no name
	if place.Right(alone) != ok || place.Right(both) != ok || place.Right(behind) {
		t.Errorf("Right with %v is not %v", w, ok)
	}
	if got := place.Usable(w, n); got != (ok && w.Selector == "") {
		t.Errorf("Usable of %v is %v", w, got)
	}
	if ok != (len(place.Order(both)) == 1) || ok != (len(place.Counts(both, nil)) == 1) || ok != place.Fits(both, nil) {
		t.Errorf("Order, Counts or Fits with %v", w)
	}
	check(t, both, []api.Bind{bind(w.ID, "n", 1)})
}

// P1: each part of a workload, from its least to its greatest and beyond.
func TestWhatIsAWorkload(t *testing.T) {
	parts := []struct {
		low, high int
		set       func(*api.Work, int)
	}{
		{0, 16, func(w *api.Work, x int) { w.Want = x }},
		{0, 9, func(w *api.Work, x int) { w.Prio = x }},
		{1, 16, func(w *api.Work, x int) { w.PerNode = x }},
		{1, 16, func(w *api.Work, x int) { w.PerCell = x }},
	}
	for _, part := range parts {
		good, bad := numbers(part.low, part.high)
		for i, x := range append(slices.Clone(good), bad...) {
			w := work("a", 1, 1, 1, 1, "")
			part.set(&w, x)
			oneWork(t, w, i < len(good))
		}
	}
	good, bad := someNames()
	for i, id := range append(slices.Clone(good), bad...) {
		oneWork(t, work(id, 1, 1, 1, 1, ""), i < len(good))
	}
	for _, selector := range []string{"", "gpu", "!gpu,a,b=c,d!=e", "b,a", "a,a", "abcdefghijkl!=abcdefghijkl"} {
		w := work("a", 1, 1, 1, 1, selector)
		if !place.Right(problem([]api.Work{w})) {
			t.Errorf("%v is refused", w)
		}
		check(t, problem([]api.Work{w}, node("n", 0, 1, "gpu=x")), nil)
	}
	for _, selector := range []string{",", "a,", "A", "!", "a=", "a==b", "a,b,c,d,e", "abcdefghijklm", "!!a", " "} {
		oneWork(t, work("a", 1, 1, 1, 1, selector), false)
	}
}

// oneNode checks for a node whether all functions take it, or refuse it.
func oneNode(t *testing.T, n api.Node, ok bool) {
	t.Helper()
	w := free("a", 1, 0)
	alone, both := problem(nil, n), problem([]api.Work{w}, n)
	behind := problem(nil, node("", 0, 1, ""), n) // an ID that is less than any, but no name
	if place.Right(alone) != ok || place.Right(both) != ok || place.Right(behind) {
		t.Errorf("Right with %v is not %v", n, ok)
	}
	if got := place.Usable(w, n); got != ok {
		t.Errorf("Usable of %v is %v", n, got)
	}
	if ok != (len(place.Order(both)) == 1) || ok != (len(place.Counts(both, nil)) == 1) || ok != place.Fits(both, nil) {
		t.Errorf("Order, Counts or Fits with %v", n)
	}
	n.Cordoned = true
	if place.Right(problem(nil, n)) != ok || place.Usable(w, n) {
		t.Errorf("Right or Usable with %v, cordoned", n)
	}
	check(t, both, []api.Bind{bind("a", n.ID, 1)})
}

// P1: each part of a node, from its least to its greatest and beyond.
func TestWhatIsANode(t *testing.T) {
	parts := []struct {
		low, high int
		set       func(*api.Node, int)
	}{
		{0, 2, func(n *api.Node, x int) { n.Cell = x }},
		{0, 4, func(n *api.Node, x int) { n.Slots = x }},
	}
	for _, part := range parts {
		good, bad := numbers(part.low, part.high)
		for i, x := range append(slices.Clone(good), bad...) {
			n := node("n", 1, 1, "")
			part.set(&n, x)
			oneNode(t, n, i < len(good))
		}
	}
	good, bad := someNames()
	for i, id := range append(slices.Clone(good), bad...) {
		oneNode(t, node(id, 1, 1, ""), i < len(good))
	}
	for _, labels := range []string{"", "gpu=x", "a=b,c=d,e=f,g=h", "abcdefghijkl=abcdefghijkl"} {
		oneNode(t, node("n", 1, 1, labels), true)
	}
	for _, labels := range []string{"x", ",", "a=b,", "zone=a,disk=ssd", "a=b,a=c", "a=b,c=d,e=f,g=h,i=j", "!a", "a!=b", "A=b", "abcdefghijklm=a"} {
		oneNode(t, node("n", 1, 1, labels), false)
	}
}

// worksOf and nodesOf have these IDs.
func worksOf(ids ...string) []api.Work {
	var all []api.Work
	for _, id := range ids {
		all = append(all, free(id, 1, 0))
	}
	return all
}

func nodesOf(ids ...string) []api.Node {
	var all []api.Node
	for _, id := range ids {
		all = append(all, node(id, 0, 1, ""))
	}
	return all
}

// P1: how many workloads and nodes a problem has at most, and in which order.
func TestWhatIsAProblem(t *testing.T) {
	var ids []string
	for many := range 20 {
		both := problem(worksOf(ids...), nodesOf(ids...)...)
		for _, p := range []api.Problem{{Works: both.Works}, {Nodes: both.Nodes}, both} {
			if place.Right(p) != (many <= 8) {
				t.Errorf("Right of %d", many)
			}
			check(t, p, nil)
		}
		ids = append(ids, "x"+string(rune('a'+many)))
	}
	for _, c := range []struct {
		ids []string
		ok  bool
	}{
		{[]string{"a", "b"}, true}, {[]string{"a", "aa"}, true}, {[]string{"9", "a"}, true}, {[]string{"10", "9"}, true}, {[]string{"a0", "a1", "aa", "b"}, true}, {[]string{"a", "a0", "a00"}, true},
		{[]string{"a", "a"}, false}, {[]string{"b", "a"}, false}, {[]string{"aa", "a"}, false}, {[]string{"a", "9"}, false}, {[]string{"9", "10"}, false}, {[]string{"a", "b", "b"}, false}, {[]string{"a", "c", "b"}, false}, {[]string{"a", "b", "a"}, false}, {[]string{"b", "a", "c"}, false}, {[]string{"a", "b", "c", "d", "e", "f", "g", "g"}, false},
		{[]string{"a", "B"}, false}, {[]string{"a", "b", ""}, false}, {[]string{"", "a"}, false},
	} {
		works, nodes := worksOf(c.ids...), nodesOf(c.ids...)
		for _, p := range []api.Problem{{Works: works}, {Nodes: nodes}, {Works: works, Nodes: nodes}, {Works: works, Nodes: nodesOf("a", "b")}, {Works: worksOf("a", "b"), Nodes: nodes}} {
			if place.Right(p) != c.ok {
				t.Errorf("Right of %v is not %v", p, c.ok)
			}
			check(t, p, []api.Bind{bind("a", "a", 1)})
		}
	}
}

// P1: by falling Prios, and as they stand where these are equal.
func TestOrder(t *testing.T) {
	for _, c := range []struct{ prios, want []int }{
		{nil, nil}, {[]int{7}, []int{0}}, {[]int{0, 9}, []int{1, 0}}, {[]int{9, 0}, []int{0, 1}}, {[]int{4, 4, 4}, []int{0, 1, 2}}, {[]int{1, 2, 1, 2, 3, 0, 3, 9}, []int{7, 4, 6, 1, 3, 0, 2, 5}}, {[]int{0, 0, 1, 0, 0, 0, 0, 0}, []int{2, 0, 1, 3, 4, 5, 6, 7}},
	} {
		var works []api.Work
		for i, prio := range c.prios {
			works = append(works, free(string(rune('a'+i)), 1, prio))
		}
		if got := place.Order(problem(works)); !slices.Equal(got, c.want) {
			t.Errorf("Order of the Prios %v is %v", c.prios, got)
		}
		check(t, problem(works, node("n", 0, 3, "")), nil)
	}
}

// P1: a node is usable if it is not cordoned and the selector matches.
func TestUsable(t *testing.T) {
	for _, c := range []struct {
		selector, labels string
		want             bool
	}{
		{"", "", true}, {"", "gpu=x", true}, {"gpu", "gpu=x", true}, {"gpu", "", false}, {"gpu", "disk=ssd", false}, {"!gpu", "gpu=x", false}, {"!gpu", "", true}, {"gpu=x", "gpu=x", true}, {"gpu=y", "gpu=x", false}, {"gpu!=y", "", true}, {"gpu,zone=a", "gpu=x,zone=a", true}, {"gpu,zone=a", "gpu=x,zone=b", false},
	} {
		w, n := work("a", 0, 0, 1, 1, c.selector), node("n", 2, 0, c.labels)
		if got := place.Usable(w, n); got != c.want {
			t.Errorf("Usable of %v and %v is %v", w, n, got)
		}
		n.Cordoned = true
		if place.Usable(w, n) {
			t.Errorf("Usable of %v and %v", w, n)
		}
	}
}

// varied has limits of every kind.
var varied = problem([]api.Work{work("a", 4, 1, 2, 3, ""), work("b", 6, 5, 3, 4, "!gpu"), work("c", 2, 5, 16, 16, "gpu")},
	node("m", 0, 4, ""), node("n", 0, 3, "gpu=x"), node("o", 1, 2, ""), cordoned("p", 1, 4), node("q", 2, 3, ""), node("r", 2, 0, ""))

// P1: what fits, and what does not, for each reason that the chapter names.
func TestFits(t *testing.T) {
	for _, l := range [][]api.Bind{
		nil, {}, {bind("a", "m", 1)}, {bind("a", "m", 2)}, {bind("b", "m", 3)}, {bind("c", "n", 2)},
		{bind("a", "m", 2), bind("a", "n", 1)}, {bind("b", "m", 3), bind("b", "o", 2)}, // PerNode and PerCell
		{bind("a", "m", 2), bind("a", "o", 2)}, {bind("b", "m", 3), bind("b", "o", 2), bind("b", "q", 1)}, // Want
		{bind("a", "m", 1), bind("b", "m", 3)}, {bind("a", "n", 1), bind("c", "n", 2)}, {bind("a", "o", 1), bind("b", "o", 1)}, // Slots
		{bind("a", "n", 1), bind("b", "m", 3), bind("c", "n", 2)}, {bind("a", "q", 1), bind("b", "m", 1), bind("b", "q", 1), bind("c", "n", 1)}, // the order
		{bind("a", "m", 2), bind("a", "n", 1), bind("a", "o", 1), bind("b", "m", 2), bind("b", "q", 3), bind("c", "n", 2)}, // as many as can be
	} {
		if !place.Fits(varied, l) {
			t.Errorf("%v does not fit", l)
		}
		check(t, varied, l)
	}
	for _, l := range [][]api.Bind{
		{bind("a", "m", 0)}, {bind("a", "m", -1)}, {bind("a", "m", math.MinInt)}, {bind("a", "m", 1), bind("a", "n", 0)}, {bind("a", "m", -1), bind("a", "n", 2)}, // Counts below 1
		{bind("a", "m", 3)}, {bind("b", "m", 4)}, {bind("a", "m", math.MaxInt)}, {bind("a", "m", 1<<32+1)}, // PerNode
		{bind("a", "m", 2), bind("a", "n", 2)}, {bind("a", "m", 2), bind("a", "n", 2), bind("b", "q", 3)}, // PerCell
		{bind("a", "m", 2), bind("a", "o", 2), bind("a", "q", 1)}, {bind("b", "m", 3), bind("b", "o", 2), bind("b", "q", 2)}, {bind("c", "n", 3)}, // Want
		{bind("a", "m", 2), bind("b", "m", 3)}, {bind("b", "o", 3)}, {bind("a", "r", 1)}, {bind("a", "o", 1), bind("b", "o", 2)}, {bind("a", "n", 2), bind("c", "n", 2)}, // Slots
		{bind("a", "p", 1)}, {bind("b", "n", 1)}, {bind("c", "m", 1)}, {bind("c", "n", 1), bind("c", "q", 1)}, // not usable
		{bind("x", "m", 1)}, {bind("a", "x", 1)}, {bind("", "m", 1)}, {bind("a", "", 1)}, {bind("", "", 1)}, {bind("m", "a", 1)}, {bind("A", "m", 1)}, {bind("a", "m ", 1)}, {bind("a", "m", 1), bind("d", "m", 1)}, // no such ones
		{bind("a", "m", 1), bind("a", "m", 1)}, {bind("a", "m", 1), bind("b", "m", 1), bind("b", "m", 1)}, // again
		{bind("a", "n", 1), bind("a", "m", 1)}, {bind("b", "m", 1), bind("a", "m", 1)}, {bind("b", "m", 1), bind("a", "n", 1)}, {bind("a", "m", 1), bind("b", "m", 1), bind("a", "n", 1)}, {bind("a", "m", 1), bind("c", "n", 1), bind("b", "o", 1)}, // the order
		{bind("a", "m", math.MaxInt), bind("a", "n", math.MaxInt), bind("a", "o", 2)}, {bind("a", "m", 1), bind("b", "m", math.MaxInt)}, {bind("a", "m", 1), bind("a", "n", math.MinInt)}, {bind("a", "m", math.MinInt), bind("a", "n", math.MinInt)}, // sums that would wrap round
	} {
		if place.Fits(varied, l) {
			t.Errorf("%v fits", l)
		}
		check(t, varied, l)
	}
	wrong := problem(append(slices.Clone(varied.Works), work("d", 17, 0, 1, 1, "")), varied.Nodes...)
	if place.Fits(wrong, nil) || place.Fits(wrong, []api.Bind{bind("a", "m", 1)}) {
		t.Error("a placement fits what is no problem")
	}
}

// P1: what workloads have, each bind from 0 to 1000, whatever it names beside the workload.
func TestCounts(t *testing.T) {
	for _, c := range []struct {
		l    []api.Bind
		want []int
	}{
		{nil, []int{0, 0, 0}}, {[]api.Bind{bind("b", "m", 3)}, []int{0, 3, 0}},
		{[]api.Bind{bind("c", "n", 2), bind("a", "m", 1), bind("c", "m", 5), bind("a", "m", 1)}, []int{2, 0, 7}},
		{[]api.Bind{bind("a", "p", 4), bind("a", "x", 5), bind("a", "", 6)}, []int{15, 0, 0}},
		{[]api.Bind{bind("x", "m", 4), bind("", "m", 5), bind("m", "a", 5), bind("A", "m", 5), bind("ab", "m", 6)}, []int{0, 0, 0}},
		{[]api.Bind{bind("a", "m", 999), bind("b", "m", 1000), bind("c", "m", 1001)}, []int{999, 1000, 1000}},
		{[]api.Bind{bind("a", "m", math.MaxInt), bind("a", "m", math.MaxInt), bind("b", "m", 0), bind("c", "m", 1<<32)}, []int{2000, 0, 1000}},
		{[]api.Bind{bind("a", "m", -1), bind("a", "m", 3), bind("b", "m", math.MinInt), bind("b", "m", -1000), bind("c", "m", 1)}, []int{3, 0, 1}},
	} {
		if got := place.Counts(varied, c.l); !slices.Equal(got, c.want) {
			t.Errorf("Counts of %v is %v", c.l, got)
		}
		check(t, varied, c.l)
	}
	if got := place.Counts(problem(worksOf("b", "a")), []api.Bind{bind("a", "m", 1)}); len(got) != 0 {
		t.Error("Counts of what is no problem:", got)
	}
}

// gpus has a workload for one node only, and a more urgent one for all.
var gpus = problem([]api.Work{work("a", 2, 0, 16, 16, "gpu"), free("b", 3, 5)}, node("m", 0, 2, "gpu=x"), node("n", 1, 4, ""))

// pairOf has one workload and two nodes, each in a cell of its own.
var pairOf = problem([]api.Work{work("a", 5, 0, 4, 16, "")}, node("m", 0, 4, ""), node("n", 1, 4, ""))

// P2: what comes of what runs now.
func TestSolve(t *testing.T) {
	rivals := problem([]api.Work{free("a", 2, 0), free("b", 2, 9), free("c", 2, 9)}, node("n", 0, 3, ""))
	cells := problem([]api.Work{work("a", 9, 0, 16, 2, "")}, node("m", 0, 4, ""), node("n", 0, 4, ""), node("o", 1, 1, ""), node("p", 2, 4, ""))
	for _, c := range []struct {
		p         api.Problem
		now, want []api.Bind
	}{
		{api.Problem{}, nil, nil}, {problem(worksOf("a")), nil, nil}, {problem(nil, nodesOf("m")...), []api.Bind{bind("a", "m", 1)}, nil},
		{problem([]api.Work{free("a", 0, 9)}, node("m", 0, 4, "")), []api.Bind{bind("a", "m", 3)}, nil},
		{problem([]api.Work{free("a", 9, 9)}, node("m", 0, 0, "")), []api.Bind{bind("a", "m", 3)}, nil},
		{pairOf, nil, []api.Bind{bind("a", "m", 4), bind("a", "n", 1)}},
		{pairOf, []api.Bind{bind("a", "n", 4)}, []api.Bind{bind("a", "m", 1), bind("a", "n", 4)}},
		{pairOf, []api.Bind{bind("a", "m", 2), bind("a", "n", 3)}, []api.Bind{bind("a", "m", 2), bind("a", "n", 3)}},
		// More than may be is cut, in the order of what runs now.
		{pairOf, []api.Bind{bind("a", "n", 3), bind("a", "m", 3)}, []api.Bind{bind("a", "m", 2), bind("a", "n", 3)}},
		{pairOf, []api.Bind{bind("a", "m", 3), bind("a", "n", 3)}, []api.Bind{bind("a", "m", 3), bind("a", "n", 2)}},
		{pairOf, []api.Bind{bind("a", "n", 1), bind("a", "m", 1), bind("a", "n", 1), bind("a", "m", 1), bind("a", "n", 9)}, []api.Bind{bind("a", "m", 2), bind("a", "n", 3)}},
		{pairOf, []api.Bind{bind("a", "n", 1001)}, []api.Bind{bind("a", "m", 1), bind("a", "n", 4)}},
		{pairOf, []api.Bind{bind("a", "n", math.MaxInt), bind("a", "m", math.MaxInt)}, []api.Bind{bind("a", "m", 1), bind("a", "n", 4)}},
		// What cannot be is left out.
		{pairOf, []api.Bind{bind("a", "n", 0), bind("a", "n", -4), bind("a", "n", math.MinInt), bind("x", "n", 4), bind("a", "x", 4), bind("", "", 4), bind("n", "a", 4), bind("a", "n", 1)}, []api.Bind{bind("a", "m", 4), bind("a", "n", 1)}},
		{problem(pairOf.Works, cordoned("m", 0, 4), pairOf.Nodes[1]), []api.Bind{bind("a", "m", 4), bind("a", "n", 1)}, []api.Bind{bind("a", "n", 4)}},
		// The more urgent ones come first, then the first ones, wherever others are.
		{rivals, nil, []api.Bind{bind("b", "n", 2), bind("c", "n", 1)}},
		{rivals, []api.Bind{bind("a", "n", 2), bind("c", "n", 1)}, []api.Bind{bind("b", "n", 2), bind("c", "n", 1)}},
		// One that is more urgent makes room, if it has another node.
		{gpus, nil, []api.Bind{bind("a", "m", 2), bind("b", "n", 3)}},
		{gpus, []api.Bind{bind("b", "m", 2), bind("b", "n", 1)}, []api.Bind{bind("a", "m", 2), bind("b", "n", 3)}},
		{problem(gpus.Works, gpus.Nodes[0], node("n", 1, 2, "")), nil, []api.Bind{bind("a", "m", 1), bind("b", "m", 1), bind("b", "n", 2)}},
		// Cells and nodes take as many as they may.
		{cells, nil, []api.Bind{bind("a", "m", 2), bind("a", "o", 1), bind("a", "p", 2)}},
		{cells, []api.Bind{bind("a", "n", 4)}, []api.Bind{bind("a", "n", 2), bind("a", "o", 1), bind("a", "p", 2)}},
		{cells, []api.Bind{bind("a", "n", 1), bind("a", "m", 1)}, []api.Bind{bind("a", "m", 1), bind("a", "n", 1), bind("a", "o", 1), bind("a", "p", 2)}},
		{problem([]api.Work{work("a", 9, 0, 1, 16, "")}, cells.Nodes...), []api.Bind{bind("a", "p", 4)}, []api.Bind{bind("a", "m", 1), bind("a", "n", 1), bind("a", "o", 1), bind("a", "p", 1)}},
	} {
		if got := solved(c.p, c.now); !got.equals(answer{c.want, api.OK}) {
			t.Errorf("Solve of %v, now %v, is %v", c.p, c.now, got)
		}
		check(t, c.p, c.now)
	}
}

// greatest has as much as a problem may have; all of it is wanted by all.
func greatest(want, perNode, perCell int) api.Problem {
	var p api.Problem
	for i := range 8 {
		tail := strings.Repeat("z", 11)
		p.Works = append(p.Works, work(string(rune('a'+i))+tail, want, 9-i%3, perNode, perCell, "abcdefghijkl,!x,b=c,b!=d"))
		p.Nodes = append(p.Nodes, node(string(rune('1'+i))+tail, i%3, 4, "abcdefghijkl=y,b=c,d=e,f=g"))
	}
	return p
}

// P1, P2: the greatest problems.
func TestTheLimits(t *testing.T) {
	for _, p := range []api.Problem{greatest(16, 16, 16), greatest(16, 1, 16), greatest(16, 2, 3), greatest(4, 1, 2), greatest(0, 1, 1), greatest(1, 1, 1)} {
		var now []api.Bind
		for _, w := range p.Works {
			for j := range p.Nodes {
				now = append(now, bind(w.ID, p.Nodes[7-j].ID, 1))
			}
		}
		for range 3 {
			check(t, p, now)
			now = append(now, now...)
		}
		check(t, p, nil)
		check(t, p, solved(p, nil).l)
	}
	if got := place.Counts(greatest(16, 16, 16), solved(greatest(16, 16, 16), nil).l); !slices.Equal(got, []int{16, 0, 0, 16, 0, 0, 0, 0}) {
		t.Error("Counts:", got)
	}
	if got := place.Counts(greatest(16, 1, 16), solved(greatest(16, 1, 16), nil).l); !slices.Equal(got, []int{8, 8, 0, 8, 0, 0, 8, 0}) {
		t.Error("Counts:", got)
	}
}

// R1: long lists and long texts are taken, or refused.
func TestHugeInputs(t *testing.T) {
	many := slices.Repeat([]api.Bind{bind("a", "n", 1), bind("a", "x", 7), bind("b", "m", -5), bind("a", "m", math.MaxInt)}, 1<<18)
	if got := solved(pairOf, many); !got.equals(answer{[]api.Bind{bind("a", "m", 4), bind("a", "n", 1)}, api.OK}) {
		t.Error("Solve of many binds:", got)
	}
	if got := place.Counts(pairOf, many); !slices.Equal(got, []int{1008 << 18}) {
		t.Error("Counts of many binds:", got)
	}
	if place.Fits(pairOf, many) || place.Fits(pairOf, many[:1<<10]) || !place.Fits(pairOf, many[:1]) {
		t.Error("Fits of many binds")
	}
	text := strings.Repeat("a", 1<<22)
	long := []api.Bind{bind(text, text, 1), bind("a", text, 1), bind(text, "m", 1)}
	for _, p := range []api.Problem{
		{Works: make([]api.Work, 1<<20)}, {Nodes: make([]api.Node, 1<<20)}, {Works: slices.Repeat(worksOf("a"), 1<<16)}, {Nodes: slices.Repeat(nodesOf("a"), 1<<16)},
		problem(worksOf(text), nodesOf("a")...), problem(worksOf("a"), nodesOf(text)...), problem([]api.Work{work("a", 1, 1, 1, 1, text)}, nodesOf("a")...), problem(worksOf("a"), node("m", 0, 1, text)),
	} {
		if got := solved(p, long); !got.equals(refused) || place.Right(p) || place.Fits(p, nil) || len(place.Order(p)) > 0 || len(place.Counts(p, long)) > 0 {
			t.Errorf("a huge problem, with %d workloads and %d nodes, is taken", len(p.Works), len(p.Nodes))
		}
	}
	check(t, pairOf, long)
}

// idsOf are so many of the names, ascending.
func idsOf(random *rand.Rand, many int) []string {
	all := []string{"0", "9", "a", "a0", "aa", "b", "web", "zz", "zzzzzzzzzzzz", "c1", "c10", "c2"}
	random.Shuffle(len(all), func(i, j int) { all[i], all[j] = all[j], all[i] })
	ids := all[:many]
	slices.Sort(ids)
	return ids
}

// pick is one of a list.
func pick[T any](random *rand.Rand, list ...T) T {
	return list[random.Intn(len(list))]
}

// randomProblem is valid, and has so many workloads and nodes.
func randomProblem(random *rand.Rand, works, nodes int) api.Problem {
	var p api.Problem
	for _, id := range idsOf(random, works) {
		selector := pick(random, "", "", "", "", "", "gpu", "!gpu", "zone=a", "zone!=a", "gpu,zone=b")
		p.Works = append(p.Works, work(id, pick(random, 0, 1, 2, 3, 5, 16), random.Intn(3)*4, pick(random, 1, 2, 4, 16), pick(random, 1, 2, 4, 16), selector))
	}
	for _, id := range idsOf(random, nodes) {
		n := node(id, random.Intn(3), pick(random, 0, 1, 2, 3, 4, 4, 4), pick(random, "", "gpu=x", "zone=a", "gpu=x,zone=b", "disk=ssd,zone=a"))
		n.Cordoned = random.Intn(8) == 0
		p.Nodes = append(p.Nodes, n)
	}
	return p
}

// anyProblem is valid, and of any size.
func anyProblem(random *rand.Rand) api.Problem {
	return randomProblem(random, random.Intn(9), random.Intn(9))
}

// randomBinds name what a problem has, mostly.
func randomBinds(random *rand.Rand, p api.Problem) []api.Bind {
	var l []api.Bind
	for range random.Intn(20) {
		w, n := pick(random, "x", "", "zz"), pick(random, "y", "", "zz")
		if len(p.Works) > 0 && random.Intn(15) > 0 {
			w = pick(random, p.Works...).ID
		}
		if len(p.Nodes) > 0 && random.Intn(15) > 0 {
			n = pick(random, p.Nodes...).ID
		}
		l = append(l, bind(w, n, pick(random, 1, 1, 1, 2, 2, 3, 4, 16, 1000, 1001, math.MaxInt, 0, -1, math.MinInt)))
	}
	return l
}

// P1, P2, P3: problems of every size, whatever runs now, against the definitions.
func TestRandomProblems(t *testing.T) {
	random := rand.New(rand.NewSource(1))
	placed := 0
	for range 3000 {
		p := anyProblem(random)
		if !isRight(p) {
			t.Fatal("not right:", p)
		}
		check(t, p, nil)
		check(t, p, randomBinds(random, p))
		placed += len(solved(p, nil).l)
	}
	if placed < 10000 {
		t.Error("only so many binds came:", placed)
	}
}

// spoil changes something in a problem at random: what comes of it may be valid or not.
func spoil(random *rand.Rand, p *api.Problem) {
	by := pick(random, -16, -5, -1, 1, 5, 16)
	text := pick(random, "", "a", "b", "A", "gpu", "gpu=x", "gpu=x,", "zone=b,gpu=x", "b,a")
	if len(p.Works) > 0 && random.Intn(2) == 0 {
		w := &p.Works[random.Intn(len(p.Works))]
		number := pick(random, &w.Want, &w.Prio, &w.PerNode, &w.PerCell)
		*number += by
		if random.Intn(3) == 0 {
			*pick(random, &w.ID, &w.Selector) = text
		}
	}
	if len(p.Nodes) > 0 && random.Intn(2) == 0 {
		n := &p.Nodes[random.Intn(len(p.Nodes))]
		switch random.Intn(3) {
		case 0:
			*pick(random, &n.Cell, &n.Slots) += by
		case 1:
			*pick(random, &n.ID, &n.Labels) = text
		default:
			n.Cordoned = !n.Cordoned
		}
	}
	if random.Intn(8) == 0 {
		random.Shuffle(len(p.Nodes), func(i, j int) { p.Nodes[i], p.Nodes[j] = p.Nodes[j], p.Nodes[i] })
		random.Shuffle(len(p.Works), func(i, j int) { p.Works[i], p.Works[j] = p.Works[j], p.Works[i] })
	}
}

// P1, P2: problems that are nearly valid.
func TestSpoiledProblems(t *testing.T) {
	random := rand.New(rand.NewSource(2))
	taken := 0
	for range 4000 {
		p := anyProblem(random)
		spoil(random, &p)
		now := randomBinds(random, p)
		check(t, p, now)
		if isRight(p) {
			taken++
		} else if got := solved(p, now); !got.equals(refused) {
			t.Errorf("Solve of %v is %v", p, got)
		}
	}
	if taken < 400 || taken > 3600 {
		t.Error("of 4000 were right:", taken)
	}
}

// spoilBinds changes something in a placement at random: what comes of it may fit or not.
func spoilBinds(random *rand.Rand, p api.Problem, l []api.Bind) []api.Bind {
	if len(l) == 0 || random.Intn(6) == 0 {
		return append(l, randomBinds(random, p)...)
	}
	i, j := random.Intn(len(l)), random.Intn(len(l))
	switch random.Intn(6) {
	case 0:
		l[i], l[j] = l[j], l[i]
	case 1:
		l[i] = l[j]
	case 2:
		l[i].Node = pick(random, p.Nodes...).ID
	case 3:
		l[i].Work = pick(random, p.Works...).ID
	case 4:
		l = slices.Delete(l, i, i+1)
	default:
		l[i].Count += pick(random, -2, -1, -1, 1, 1, 1, 2, math.MaxInt)
	}
	return l
}

// P1: placements that nearly fit.
func TestSpoiledPlacements(t *testing.T) {
	random := rand.New(rand.NewSource(3))
	fitting := 0
	for range 6000 {
		p := anyProblem(random)
		l := spoilBinds(random, p, solved(p, randomBinds(random, p)).l)
		want := fits(p, l)
		if got := place.Fits(p, l); got != want {
			t.Errorf("Fits of %v in %v is %v", l, p, got)
		}
		if want {
			fitting++
		}
	}
	if fitting < 600 || fitting > 5400 {
		t.Error("of 6000 did fit:", fitting)
	}
}

// placements are all that fit a problem and begin with l; the spots from place on are still to be tried.
func placements(p api.Problem, l []api.Bind, spots []api.Bind) [][]api.Bind {
	if len(spots) == 0 {
		return [][]api.Bind{l}
	}
	all := placements(p, l, spots[1:])
	for count := 1; ; count++ {
		longer := append(slices.Clone(l), bind(spots[0].Work, spots[0].Node, count))
		if !fits(p, longer) {
			return all
		}
		all = append(all, placements(p, longer, spots[1:])...)
	}
}

// spotsOf are binds of all workloads on all nodes.
func spotsOf(p api.Problem) []api.Bind {
	var all []api.Bind
	for _, w := range p.Works {
		for _, n := range p.Nodes {
			all = append(all, bind(w.ID, n.ID, 0))
		}
	}
	return all
}

// prefixes are how many replicas a workload has together with those ahead of it in the Order.
func prefixes(p api.Problem, l []api.Bind) []int {
	var all []int
	sum := 0
	for _, i := range order(p) {
		sum += counts(p, l)[i]
		all = append(all, sum)
	}
	return all
}

// isLess reports whether an element of a is less than that of b.
func isLess(a, b []int) bool {
	for i := range a {
		if a[i] < b[i] {
			return true
		}
	}
	return false
}

// P3: in small problems, no placement that fits has more for the first workloads, and all that have as many stay.
func TestNoPlacementHasMore(t *testing.T) {
	random := rand.New(rand.NewSource(4))
	stayed := 0
	for range 1500 {
		p := randomProblem(random, 1+random.Intn(3), 2+random.Intn(3))
		for i := range p.Nodes {
			p.Nodes[i].Slots = min(p.Nodes[i].Slots, 2)
		}
		got := solved(p, randomBinds(random, p))
		most := prefixes(p, got.l)
		for _, l := range placements(p, nil, spotsOf(p)) {
			has := prefixes(p, l)
			if isLess(most, has) {
				t.Errorf("Solve of %v is %v, but %v fits", p, got, l)
			}
			if slices.Equal(most, has) {
				stayed++
				if again := solved(p, l); !again.equals(answer{l, api.OK}) {
					t.Errorf("Solve of %v, now %v, is %v", p, l, again)
				}
			}
		}
	}
	if stayed < 2000 {
		t.Error("only so many could stay:", stayed)
	}
}

// P3: in greater problems, what runs now changes no number of replicas, and what comes of it stays.
func TestWhatIsPlacedStays(t *testing.T) {
	random := rand.New(rand.NewSource(5))
	moved := 0
	for range 800 {
		p := anyProblem(random)
		first := solved(p, nil)
		for range 5 {
			got := solved(p, randomBinds(random, p))
			if !slices.Equal(counts(p, got.l), counts(p, first.l)) {
				t.Errorf("Solve of %v is %v, but %v", p, first, got)
			}
			if again := solved(p, got.l); !again.equals(got) {
				t.Errorf("Solve of %v, now %v, is %v", p, got, again)
			}
			if !got.equals(first) {
				moved++
			}
		}
	}
	if moved < 500 {
		t.Error("only so many differ from those of nothing:", moved)
	}
}

// swapped is a placement in which replicas of two workloads changed their nodes, if it fits then.
func swapped(random *rand.Rand, p api.Problem, l []api.Bind) []api.Bind {
	a, b := pick(random, l...), pick(random, l...)
	sums := map[[2]string]int{}
	for _, x := range l {
		sums[[2]string{x.Work, x.Node}] += x.Count
	}
	sums[[2]string{a.Work, a.Node}]--
	sums[[2]string{b.Work, b.Node}]--
	sums[[2]string{a.Work, b.Node}]++
	sums[[2]string{b.Work, a.Node}]++
	var other []api.Bind
	for _, s := range spotsOf(p) {
		if count := sums[[2]string{s.Work, s.Node}]; count > 0 {
			other = append(other, bind(s.Work, s.Node, count))
		}
	}
	if !fits(p, other) {
		return l
	}
	return other
}

// P3: placements that came about otherwise than by Solve stay as well.
func TestSwappedPlacementsStay(t *testing.T) {
	random := rand.New(rand.NewSource(6))
	changed := 0
	for range 800 {
		p := anyProblem(random)
		l := solved(p, nil).l
		if len(l) == 0 {
			continue
		}
		first := l
		for range 30 {
			l = swapped(random, p, l)
		}
		if got := solved(p, l); !got.equals(answer{l, api.OK}) {
			t.Errorf("Solve of %v, now %v, is %v", p, l, got)
		}
		if !slices.Equal(l, first) {
			changed++
		}
	}
	if changed < 100 {
		t.Error("only so many were swapped:", changed)
	}
}

// isHarmless reports whether a bind of what runs now says nothing.
func isHarmless(p api.Problem, b api.Bind) bool {
	w, n, found := find(p, b)
	return !found || !isUsable(w, n) || b.Count < 1
}

// P3: binds that are not valid or not usable might as well not be there; those that are excessive count as far as they can.
func TestWrongBindsDoNoHarm(t *testing.T) {
	random := rand.New(rand.NewSource(7))
	for range 1000 {
		p := anyProblem(random)
		now := randomBinds(random, p)
		got := solved(p, now)
		without := slices.DeleteFunc(slices.Clone(now), func(b api.Bind) bool { return isHarmless(p, b) })
		if other := solved(p, without); !got.equals(other) {
			t.Errorf("Solve of %v, now %v, is %v, but %v", p, now, got, other)
		}
		for i := range without {
			without[i].Count = min(without[i].Count, 16)
		}
		if other := solved(p, without); !got.equals(other) {
			t.Errorf("Solve of %v, now %v, is %v, but with less %v", p, now, got, other)
		}
	}
}

// roomy is a copy with memory behind its length.
func roomy[T any](list []T, behind T) []T {
	long := append(slices.Clone(list), behind, behind)
	return long[:len(list)]
}

// spacious is a problem with memory behind its lists; nobody else has it, nor its texts.
func spacious() api.Problem {
	p := api.Problem{Works: roomy(varied.Works, free("y", 8, 8)), Nodes: roomy(varied.Nodes, node("z", 2, 2, ""))}
	for i := range p.Works {
		p.Works[i].ID = strings.Clone(p.Works[i].ID)
	}
	for i := range p.Nodes {
		p.Nodes[i].ID = strings.Clone(p.Nodes[i].ID)
	}
	return p
}

// running is what runs now, not in the order of a placement, with memory behind its length.
func running() []api.Bind {
	return roomy([]api.Bind{bind("c", "n", 9), bind("a", "q", 2), bind("b", "m", 2000), bind("x", "m", 2), bind("a", "m", -3)}, bind("b", "q", 3))
}

// R3: arguments stay as they are, also behind their length, and what was answered does, whatever becomes of them.
func TestArgumentsAreLeftAlone(t *testing.T) {
	p, now := spacious(), running()
	wrong := spacious()
	wrong.Works[0].Want = 99
	got, order, counts := solved(p, now), place.Order(p), place.Counts(p, now)
	place.Right(p)
	place.Fits(p, now)
	place.Usable(p.Works[0], p.Nodes[0])
	solved(wrong, now)
	before := spacious()
	if !reflect.DeepEqual(p.Works[:cap(p.Works)], before.Works[:cap(before.Works)]) || !reflect.DeepEqual(p.Nodes[:cap(p.Nodes)], before.Nodes[:cap(before.Nodes)]) || !slices.Equal(now[:cap(now)], running()[:cap(now)]) {
		t.Error("changed:", p, now)
	}
	for i := range p.Works {
		p.Works[i] = free("k", 0, 0)
	}
	for i := range p.Nodes {
		p.Nodes[i] = cordoned("k", 0, 0)
	}
	for i := range now {
		now[i] = bind("k", "k", 7)
	}
	if want := solve(spacious(), running()); !got.equals(want) || !slices.Equal(order, []int{1, 2, 0}) || !slices.Equal(counts, []int{2, 1000, 9}) {
		t.Error("answers changed with the arguments:", got, order, counts)
	}
}

// lies reports whether got lies in the memory of s.
func lies(got, s string) bool {
	start, at := uintptr(unsafe.Pointer(unsafe.StringData(s))), uintptr(unsafe.Pointer(unsafe.StringData(got)))
	return got != "" && start <= at && at < start+uintptr(len(s))
}

// R3: the texts of an answer are new memory, too.
func TestTextsAreNewMemory(t *testing.T) {
	p, now := spacious(), running()
	got := solved(p, now)
	for _, b := range got.l {
		for _, w := range p.Works {
			if lies(b.Work, w.ID) {
				t.Errorf("%v has the text of a workload", b)
			}
		}
		for _, n := range p.Nodes {
			if lies(b.Node, n.ID) {
				t.Errorf("%v has the text of a node", b)
			}
		}
		for _, x := range now {
			if lies(b.Work, x.Work) || lies(b.Node, x.Node) {
				t.Errorf("%v has the text of what runs now", b)
			}
		}
	}
	if len(got.l) < 3 {
		t.Error("too few:", got)
	}
}

// spread changes a list, and what is behind its length.
func spread[T any](list []T, by T) {
	all := list[:cap(list)]
	for i := range all {
		all[i] = by
	}
	_ = append(list, by, by)
}

// R3, R4: answers may be changed and extended without a change of another one, and of the arguments; nothing is kept between calls, and all calls answer the same.
func TestAnswersAreNewMemory(t *testing.T) {
	for _, p := range []api.Problem{spacious(), greatest(5, 1, 2), small, gpus, {}, problem(worksOf("b", "a"))} {
		for _, now := range [][]api.Bind{nil, running(), solve(p, nil).l} {
			first, second := solved(p, now), solved(p, now)
			kept := answer{slices.Clone(second.l), second.e}
			orders, sums := [2][]int{place.Order(p), place.Order(p)}, [2][]int{place.Counts(p, now), place.Counts(p, now)}
			spread(first.l, bind("k", "k", 5))
			spread(orders[0], 77)
			spread(sums[0], 77)
			if !second.equals(kept) || !slices.Equal(orders[1], order(p)) || !slices.Equal(sums[1], counts(p, now)) {
				t.Errorf("answers to %v share memory", p)
			}
			check(t, p, now)
			for range 20 {
				if got := solved(p, now); !got.equals(kept) {
					t.Errorf("Solve of %v, now %v, is %v, and %v again", p, now, kept, got)
				}
			}
		}
	}
}
