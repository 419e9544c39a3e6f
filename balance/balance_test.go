package balance_test

import (
	"math"
	"math/rand"
	"reflect"
	"slices"
	"strings"
	"testing"
	"unsafe"

	"billet/api"
	"billet/balance"
	"billet/place"
)

// on is a bind, short for tables.
func on(node, work string, count int) api.Bind {
	return api.Bind{Work: work, Node: node, Count: count}
}

// wide are workloads of which each node and each cell may have 16 replicas.
func wide(ids ...string) []api.Work {
	var works []api.Work
	for _, id := range ids {
		works = append(works, api.Work{ID: id, Want: 16, PerNode: 16, PerCell: 16})
	}
	return works
}

// row are nodes of the first cell with 4 Slots each.
func row(ids ...string) []api.Node {
	var nodes []api.Node
	for _, id := range ids {
		nodes = append(nodes, api.Node{ID: id, Slots: 4})
	}
	return nodes
}

// evened is what Even answers.
type evened struct {
	binds []api.Bind
	moves int
	errno api.Errno
}

// refused is the answer to a placement that does not fit.
var refused = evened{nil, 0, api.ErrPlaceForm}

// same reports whether two answers are equal.
func (a evened) same(b evened) bool {
	return slices.Equal(a.binds, b.binds) && a.moves == b.moves && a.errno == b.errno
}

// even is the answer as one value.
func even(p api.Problem, l []api.Bind) evened {
	binds, moves, errno := balance.Even(p, l)
	return evened{binds, moves, errno}
}

// has is how many replicas of a workload are on a node.
func has(l []api.Bind, work, node string) int {
	sum := 0
	for _, b := range l {
		if b.Work == work && b.Node == node {
			sum += b.Count
		}
	}
	return sum
}

// load is the chapter's load of a node.
func load(l []api.Bind, node string) int {
	sum := 0
	for _, b := range l {
		if b.Node == node {
			sum += b.Count
		}
	}
	return sum
}

// loads and squares are B1's definitions.
func loads(p api.Problem, l []api.Bind) []int {
	if !place.Fits(p, l) {
		return nil
	}
	var all []int
	for _, n := range p.Nodes {
		all = append(all, load(l, n.ID))
	}
	return all
}

func squares(p api.Problem, l []api.Bind) int {
	sum := 0
	for _, x := range loads(p, l) {
		sum += x * x
	}
	return sum
}

// step is a move of one replica.
type step struct {
	work          api.Work
	first, second api.Node
}

// steps are all moves in a problem, good or not, in B2's order.
func steps(p api.Problem) []step {
	var all []step
	for _, w := range p.Works {
		for _, first := range p.Nodes {
			for _, second := range p.Nodes {
				if first.ID != second.ID && first.Cell == second.Cell {
					all = append(all, step{w, first, second})
				}
			}
		}
	}
	return all
}

// isGood is the chapter's definition.
func (s step) isGood(l []api.Bind) bool {
	switch {
	case has(l, s.work.ID, s.first.ID) == 0:
		return false
	case !place.Usable(s.work, s.second) || has(l, s.work.ID, s.second.ID) >= s.work.PerNode || load(l, s.second.ID) >= s.second.Slots:
		return false
	}
	return load(l, s.first.ID)-load(l, s.second.ID) >= 2
}

// taken is what is where behind a move.
func (s step) taken(p api.Problem, l []api.Bind) []api.Bind {
	var after []api.Bind
	for _, w := range p.Works {
		for _, n := range p.Nodes {
			count := has(l, w.ID, n.ID)
			if w == s.work && n == s.first {
				count--
			}
			if w == s.work && n == s.second {
				count++
			}
			if count != 0 {
				after = append(after, on(n.ID, w.ID, count))
			}
		}
	}
	return after
}

// want is B2's definition.
func want(p api.Problem, l []api.Bind) evened {
	if !place.Fits(p, l) {
		return refused
	}
	for moves := 0; ; moves++ {
		i := slices.IndexFunc(steps(p), func(s step) bool { return s.isGood(l) })
		if i < 0 {
			return evened{l, moves, api.OK}
		}
		l = steps(p)[i].taken(p, l)
	}
}

// check holds all functions against the definitions, and returns the number of moves.
func check(t *testing.T, p api.Problem, l []api.Bind) int {
	t.Helper()
	if got := balance.Loads(p, l); !slices.Equal(got, loads(p, l)) {
		t.Errorf("Loads of %v in %v is %v", l, p, got)
	}
	if got := balance.Squares(p, l); got != squares(p, l) {
		t.Errorf("Squares of %v in %v is %v", l, p, got)
	}
	got := even(p, l)
	if should := want(p, l); !got.same(should) {
		t.Errorf("Even of %v in %v is %v, not %v", l, p, got, should)
	}
	return got.moves
}

// inCells is how many replicas each workload has in each cell.
func inCells(p api.Problem, l []api.Bind) []int {
	var all []int
	for _, w := range p.Works {
		var sums [3]int
		for _, n := range p.Nodes {
			sums[n.Cell] += has(l, w.ID, n.ID)
		}
		all = append(all, sums[:]...)
	}
	return all
}

// isEvenest reports whether no move that leads to a placement that fits makes Squares less. That is what no good move means.
func isEvenest(p api.Problem, l []api.Bind) bool {
	before := squares(p, l)
	for _, s := range steps(p) {
		if has(l, s.work.ID, s.first.ID) > 0 && balance.Squares(p, s.taken(p, l)) < before && place.Fits(p, s.taken(p, l)) {
			return false
		}
	}
	return true
}

// checkTheorem holds an answer to a placement that fits against what B3 says.
func checkTheorem(t *testing.T, p api.Problem, l []api.Bind) {
	t.Helper()
	got := even(p, l)
	if got.errno != api.OK || !place.Fits(p, got.binds) {
		t.Errorf("Even of %v in %v is %v, which does not fit", l, p, got)
	}
	if !slices.Equal(inCells(p, got.binds), inCells(p, l)) {
		t.Errorf("Even of %v in %v is %v: in another cell", l, p, got)
	}
	if !isEvenest(p, got.binds) {
		t.Errorf("Even of %v in %v is %v, which could be more even", l, p, got)
	}
	if less := balance.Squares(p, l) - balance.Squares(p, got.binds); less < 2*got.moves {
		t.Errorf("Even of %v in %v is %v: Squares is less by %v", l, p, got, less)
	}
	if again := even(p, got.binds); !again.same(evened{got.binds, 0, api.OK}) {
		t.Errorf("Even of %v in %v is %v, and %v of that", l, p, got, again)
	}
	if (got.moves == 0) != isEvenest(p, l) || got.moves == 0 && !slices.Equal(got.binds, l) {
		t.Errorf("Even of %v in %v is %v", l, p, got)
	}
}

// B1, B2: the chapter's example.
func TestTheExample(t *testing.T) {
	p := api.Problem{Works: []api.Work{{ID: "a", Want: 4, PerNode: 4, PerCell: 4}}, Nodes: row("m", "n")}
	before, after := []api.Bind{on("m", "a", 4)}, []api.Bind{on("m", "a", 2), on("n", "a", 2)}
	if got := even(p, before); !got.same(evened{after, 2, api.OK}) {
		t.Error("Even:", got)
	}
	if got := balance.Loads(p, before); !slices.Equal(got, []int{4, 0}) {
		t.Error("Loads before:", got)
	}
	if got := balance.Loads(p, after); !slices.Equal(got, []int{2, 2}) {
		t.Error("Loads after:", got)
	}
	if balance.Squares(p, before) != 16 || balance.Squares(p, after) != 8 {
		t.Error("Squares:", balance.Squares(p, before), balance.Squares(p, after))
	}
	if got := even(p, after); !got.same(evened{after, 0, api.OK}) {
		t.Error("Even of that:", got)
	}
}

// mixed has limits of every kind.
var mixed = api.Problem{
	Works: []api.Work{{ID: "a", Want: 6, PerNode: 3, PerCell: 4}, {ID: "b", Want: 9, Prio: 9, PerNode: 2, PerCell: 16, Selector: "!gpu"}, {ID: "c", Want: 2, PerNode: 16, PerCell: 16, Selector: "gpu"}},
	Nodes: []api.Node{{ID: "k", Cell: 1, Slots: 4}, {ID: "m", Slots: 4}, {ID: "n", Slots: 3, Labels: "gpu=x"}, {ID: "o", Cell: 1, Slots: 2}, {ID: "p", Slots: 4, Cordoned: true}, {ID: "q", Cell: 2}},
}

// B1: the loads and their squares, also of nodes on which nothing is, or may be.
func TestLoadsAndSquares(t *testing.T) {
	for _, c := range []struct {
		p     api.Problem
		l     []api.Bind
		loads []int
		sum   int
	}{
		{api.Problem{}, nil, nil, 0},
		{api.Problem{Works: wide("a")}, nil, nil, 0},
		{api.Problem{Nodes: row("m")}, nil, []int{0}, 0},
		{api.Problem{Works: wide("a"), Nodes: row("m", "n", "o")}, nil, []int{0, 0, 0}, 0},
		{api.Problem{Works: wide("a"), Nodes: row("m", "n", "o")}, []api.Bind{on("o", "a", 3)}, []int{0, 0, 3}, 9},
		{api.Problem{Works: wide("a", "b"), Nodes: row("m", "n")}, []api.Bind{on("m", "a", 1), on("m", "b", 2), on("n", "b", 1)}, []int{3, 1}, 10},
		{api.Problem{Works: wide("m", "n"), Nodes: row("m", "n")}, []api.Bind{on("n", "m", 4), on("m", "n", 1)}, []int{1, 4}, 17},
		{mixed, []api.Bind{on("k", "a", 3), on("m", "a", 1), on("n", "a", 1), on("k", "b", 1), on("m", "b", 2), on("o", "b", 1), on("n", "c", 2)}, []int{4, 3, 3, 1, 0, 0}, 35},
	} {
		if got := balance.Loads(c.p, c.l); !slices.Equal(got, c.loads) || len(got) != len(c.p.Nodes) {
			t.Errorf("Loads of %v in %v is %v", c.l, c.p, got)
		}
		if got := balance.Squares(c.p, c.l); got != c.sum {
			t.Errorf("Squares of %v in %v is %v", c.l, c.p, got)
		}
		check(t, c.p, c.l)
	}
}

// B1, B2: what does not fit has no loads, and is not evened.
func TestWhatDoesNotFit(t *testing.T) {
	for _, l := range [][]api.Bind{
		{on("m", "a", 0)}, {on("m", "a", -1)}, {on("m", "a", 1), on("n", "a", 0)}, {on("m", "a", math.MinInt)}, {on("m", "a", 1<<32)}, {on("m", "a", math.MaxInt)}, // Counts
		{on("m", "a", 4)}, {on("m", "b", 3)}, // PerNode
		{on("m", "a", 3), on("n", "a", 2)}, {on("k", "a", 3), on("o", "a", 2)}, // PerCell
		{on("n", "c", 3)}, {on("k", "b", 2), on("m", "b", 1), on("m", "a", 1)}, // Want, and the order
		{on("k", "a", 3), on("k", "b", 2)}, {on("o", "a", 3)}, {on("q", "a", 1)}, {on("n", "a", 2), on("n", "c", 2)}, // Slots
		{on("p", "a", 1)}, {on("n", "b", 1)}, {on("m", "c", 1)}, // not usable
		{on("m", "x", 1)}, {on("x", "a", 1)}, {on("", "", 1)}, {on("a", "m", 1)}, {on("m", "a", 1), on("m", "d", 1)}, // no such ones
		{on("m", "a", 1), on("m", "a", 1)}, {on("n", "a", 1), on("m", "a", 1)}, {on("m", "b", 1), on("m", "a", 1)}, // again, and the order
	} {
		if got := even(mixed, l); !got.same(refused) {
			t.Errorf("Even of %v is %v", l, got)
		}
		if len(balance.Loads(mixed, l)) != 0 || balance.Squares(mixed, l) != 0 {
			t.Errorf("%v has loads", l)
		}
		check(t, mixed, l)
	}
	for _, p := range []api.Problem{
		{Works: wide("b", "a"), Nodes: row("m", "n")}, {Works: wide("a"), Nodes: row("n", "m")}, {Works: wide("a", "a"), Nodes: row("m")}, {Works: wide("a"), Nodes: row("m", "m")}, {Works: wide("A"), Nodes: row("m")}, {Works: wide("a"), Nodes: row("m", "")},
		{Works: wide("a", "b", "c", "d", "e", "f", "g", "h", "i"), Nodes: row("m")}, {Works: wide("a"), Nodes: row("m", "n", "o", "p", "q", "r", "s", "t", "u")},
		{Works: wide("a"), Nodes: []api.Node{{ID: "m", Slots: 5}}}, {Works: wide("a"), Nodes: []api.Node{{ID: "m", Slots: 4, Cell: 3}}}, {Works: wide("a"), Nodes: []api.Node{{ID: "m", Slots: 4, Labels: "a"}}}, {Works: []api.Work{{ID: "a"}}, Nodes: row("m")},
	} {
		for _, l := range [][]api.Bind{nil, {on("m", "a", 1)}, {on("m", "a", 4)}} {
			if got := even(p, l); !got.same(refused) || len(balance.Loads(p, l)) != 0 || balance.Squares(p, l) != 0 {
				t.Errorf("Even of %v in %v, which is not valid, is %v", l, p, got)
			}
		}
	}
}

// pairOf is a problem of these workloads and a full and an empty node, which something is done with.
func pairOf(works []api.Work, change func(p *api.Problem)) api.Problem {
	p := api.Problem{Works: works, Nodes: row("m", "n")}
	change(&p)
	return p
}

// B2: which moves are good: each condition, at its edge and beside it.
func TestWhatIsGood(t *testing.T) {
	four := []api.Bind{on("m", "a", 4)}
	halves := []api.Bind{on("m", "a", 2), on("n", "a", 2)}
	quarter := []api.Bind{on("m", "a", 3), on("n", "a", 1)}
	for _, c := range []struct {
		name    string
		p       api.Problem
		l, want []api.Bind
		moves   int
	}{
		{"nothing hinders", pairOf(wide("a"), func(p *api.Problem) {}), four, halves, 2},
		{"Want is reached", pairOf(wide("a"), func(p *api.Problem) { p.Works[0].Want = 4 }), four, halves, 2},
		{"PerCell is reached", pairOf(wide("a"), func(p *api.Problem) { p.Works[0].PerCell = 4 }), four, halves, 2},
		{"both in another cell", pairOf(wide("a"), func(p *api.Problem) { p.Nodes[0].Cell, p.Nodes[1].Cell = 2, 2 }), four, halves, 2},
		{"the second in another cell", pairOf(wide("a"), func(p *api.Problem) { p.Nodes[1].Cell = 1 }), four, four, 0},
		{"the first in another cell", pairOf(wide("a"), func(p *api.Problem) { p.Nodes[0].Cell = 2 }), four, four, 0},
		{"the second cordoned", pairOf(wide("a"), func(p *api.Problem) { p.Nodes[1].Cordoned = true }), four, four, 0},
		{"the selector does not match", pairOf(wide("a"), func(p *api.Problem) { p.Works[0].Selector, p.Nodes[1].Labels = "!gpu", "gpu=x" }), four, four, 0},
		{"the selector matches both", pairOf(wide("a"), func(p *api.Problem) {
			p.Works[0].Selector, p.Nodes[0].Labels, p.Nodes[1].Labels = "gpu", "gpu=x", "gpu=y"
		}), four, halves, 2},
		{"no Slots", pairOf(wide("a"), func(p *api.Problem) { p.Nodes[1].Slots = 0 }), four, four, 0},
		{"one Slot", pairOf(wide("a"), func(p *api.Problem) { p.Nodes[1].Slots = 1 }), four, quarter, 1},
		{"two Slots", pairOf(wide("a"), func(p *api.Problem) { p.Nodes[1].Slots = 2 }), four, halves, 2},
		{"one Slot, taken", pairOf(wide("a"), func(p *api.Problem) { p.Nodes[1].Slots = 1 }), quarter, quarter, 0},
		{"one Slot, taken by another", pairOf(wide("a", "b"), func(p *api.Problem) { p.Nodes[1].Slots = 1 }), []api.Bind{on("m", "a", 3), on("n", "b", 1)}, []api.Bind{on("m", "a", 3), on("n", "b", 1)}, 0},
		{"the first has fewer Slots", pairOf(wide("a"), func(p *api.Problem) { p.Nodes[0].Slots = 2 }), []api.Bind{on("n", "a", 4)}, halves, 2},
		{"a difference of 1", pairOf(wide("a"), func(p *api.Problem) {}), []api.Bind{on("m", "a", 1)}, []api.Bind{on("m", "a", 1)}, 0},
		{"a difference of 1 of more", pairOf(wide("a"), func(p *api.Problem) {}), []api.Bind{on("m", "a", 3), on("n", "a", 2)}, []api.Bind{on("m", "a", 3), on("n", "a", 2)}, 0},
		{"a difference of 2", pairOf(wide("a"), func(p *api.Problem) {}), []api.Bind{on("m", "a", 2)}, []api.Bind{on("m", "a", 1), on("n", "a", 1)}, 1},
		{"a difference of 2 of more", pairOf(wide("a"), func(p *api.Problem) {}), quarter, halves, 1},
		{"a difference of 3", pairOf(wide("a"), func(p *api.Problem) {}), []api.Bind{on("m", "a", 3)}, []api.Bind{on("m", "a", 2), on("n", "a", 1)}, 1},
		{"no difference", pairOf(wide("a"), func(p *api.Problem) {}), halves, halves, 0},
		{"from the second one", pairOf(wide("a"), func(p *api.Problem) {}), []api.Bind{on("n", "a", 4)}, halves, 2},
		{"full nodes", pairOf(wide("a"), func(p *api.Problem) {}), []api.Bind{on("m", "a", 4), on("n", "a", 4)}, []api.Bind{on("m", "a", 4), on("n", "a", 4)}, 0},
		// The first workload may not move, or has nothing on the first node; so the second one does.
		{"as many as PerNode", pairOf(wide("a", "b"), func(p *api.Problem) { p.Works[0].PerNode = 1 }), []api.Bind{on("m", "a", 1), on("n", "a", 1), on("m", "b", 3)}, []api.Bind{on("m", "a", 1), on("n", "a", 1), on("m", "b", 2), on("n", "b", 1)}, 1},
		{"one fewer than PerNode", pairOf(wide("a", "b"), func(p *api.Problem) { p.Works[0].PerNode = 2 }), []api.Bind{on("m", "a", 2), on("n", "a", 1), on("m", "b", 2)}, []api.Bind{on("m", "a", 1), on("n", "a", 2), on("m", "b", 2)}, 1},
		{"no replica on the first node", pairOf(wide("a", "b"), func(p *api.Problem) {}), []api.Bind{on("n", "a", 1), on("m", "b", 4)}, []api.Bind{on("n", "a", 1), on("m", "b", 3), on("n", "b", 1)}, 1},
		{"none of either", pairOf(wide("a", "b"), func(p *api.Problem) { p.Works[1].PerNode = 3 }), []api.Bind{on("m", "b", 3)}, []api.Bind{on("m", "b", 2), on("n", "b", 1)}, 1},
		{"usable for the second one alone", pairOf(wide("a", "b"), func(p *api.Problem) {
			p.Works[0].Selector, p.Works[1].Selector, p.Nodes[1].Labels = "!x", "!y", "x=x"
		}), []api.Bind{on("m", "a", 1), on("m", "b", 3)}, []api.Bind{on("m", "a", 1), on("m", "b", 1), on("n", "b", 2)}, 2},
	} {
		if got := even(c.p, c.l); !got.same(evened{c.want, c.moves, api.OK}) {
			t.Errorf("%s: %v, not %v with %d moves", c.name, got, c.want, c.moves)
		}
		check(t, c.p, c.l)
		checkTheorem(t, c.p, c.l)
	}
}

// B2: the first workload comes first, then the first node, then the second one; as long as there is a good move.
func TestTheOrderOfMoves(t *testing.T) {
	for _, c := range []struct {
		works, nodes string
		l, want      []api.Bind
		moves        int
	}{
		{"a", "mno", []api.Bind{on("m", "a", 2)}, []api.Bind{on("m", "a", 1), on("n", "a", 1)}, 1},
		{"a", "mno", []api.Bind{on("n", "a", 2)}, []api.Bind{on("m", "a", 1), on("n", "a", 1)}, 1},
		{"a", "mno", []api.Bind{on("o", "a", 2)}, []api.Bind{on("m", "a", 1), on("o", "a", 1)}, 1},
		{"a", "mno", []api.Bind{on("n", "a", 4), on("o", "a", 4)}, []api.Bind{on("m", "a", 3), on("n", "a", 2), on("o", "a", 3)}, 3},
		{"a", "mno", []api.Bind{on("m", "a", 4), on("n", "a", 4)}, []api.Bind{on("m", "a", 3), on("n", "a", 3), on("o", "a", 2)}, 3},
		{"a", "mno", []api.Bind{on("m", "a", 4)}, []api.Bind{on("m", "a", 1), on("n", "a", 2), on("o", "a", 1)}, 3},
		{"a", "mnop", []api.Bind{on("m", "a", 3)}, []api.Bind{on("m", "a", 1), on("n", "a", 1), on("o", "a", 1)}, 2},
		{"ab", "mn", []api.Bind{on("m", "a", 1), on("m", "b", 1)}, []api.Bind{on("n", "a", 1), on("m", "b", 1)}, 1},
		{"ab", "mn", []api.Bind{on("m", "a", 2), on("m", "b", 2)}, []api.Bind{on("n", "a", 2), on("m", "b", 2)}, 2},
		{"ab", "mn", []api.Bind{on("m", "a", 1), on("m", "b", 3)}, []api.Bind{on("n", "a", 1), on("m", "b", 2), on("n", "b", 1)}, 2},
		{"ab", "mno", []api.Bind{on("n", "a", 2), on("m", "b", 2)}, []api.Bind{on("n", "a", 1), on("o", "a", 1), on("m", "b", 2)}, 1},
		{"ab", "mno", []api.Bind{on("m", "a", 3), on("m", "b", 1)}, []api.Bind{on("n", "a", 2), on("o", "a", 1), on("m", "b", 1)}, 3},
		{"abc", "mn", []api.Bind{on("m", "b", 1), on("m", "c", 1)}, []api.Bind{on("n", "b", 1), on("m", "c", 1)}, 1},
	} {
		p := api.Problem{Works: wide(strings.Split(c.works, "")...), Nodes: row(strings.Split(c.nodes, "")...)}
		if got := even(p, c.l); !got.same(evened{c.want, c.moves, api.OK}) {
			t.Errorf("Even of %v on %s is %v, not %v with %d moves", c.l, c.nodes, got, c.want, c.moves)
		}
		check(t, p, c.l)
		checkTheorem(t, p, c.l)
	}
	// The index of a workload counts, not its Prio.
	p := api.Problem{Works: wide("a", "b"), Nodes: row("m", "n")}
	p.Works[1].Prio = 9
	if got := even(p, []api.Bind{on("m", "a", 1), on("m", "b", 1)}); !got.same(evened{[]api.Bind{on("n", "a", 1), on("m", "b", 1)}, 1, api.OK}) {
		t.Error("with a more urgent one:", got)
	}
}

// B2, B3: the greatest problem, in one cell and in three, with half of the nodes full, or all of them.
func TestTheLimits(t *testing.T) {
	var p api.Problem
	for i := range 8 {
		tail := strings.Repeat("z", 11)
		p.Works = append(p.Works, wide(string(rune('a'+i))+tail)...)
		p.Nodes = append(p.Nodes, row(string(rune('0'+i))+tail)...)
	}
	var half, all []api.Bind
	for i, w := range p.Works {
		half = append(half, on(p.Nodes[i/2*2].ID, w.ID, 2))
		all = append(all, on(p.Nodes[i].ID, w.ID, 4))
	}
	got := even(p, half)
	if now := balance.Loads(p, got.binds); !slices.Equal(now, []int{2, 2, 2, 2, 2, 2, 2, 2}) || balance.Squares(p, half) != 64 || balance.Squares(p, got.binds) != 32 {
		t.Error("the loads of half are", now)
	}
	if got := even(p, all); !got.same(evened{all, 0, api.OK}) || balance.Squares(p, all) != 128 {
		t.Error("what is full is moved:", got)
	}
	for range 2 {
		for _, l := range [][]api.Bind{nil, half, all, half[:5], all[:5], all[3:]} {
			check(t, p, l)
			checkTheorem(t, p, l)
		}
		for i := range p.Nodes {
			p.Nodes[i].Cell = i / 3
		}
	}
}

// counts are the replicas of placements, by workload and node.
type counts map[[2]string]int

// listed is the placement of counts.
func listed(p api.Problem, all counts) []api.Bind {
	var l []api.Bind
	for _, w := range p.Works {
		for _, n := range p.Nodes {
			if count := all[[2]string{w.ID, n.ID}]; count > 0 {
				l = append(l, on(n.ID, w.ID, count))
			}
		}
	}
	return l
}

// oneOf is an element of a list.
func oneOf[T any](random *rand.Rand, list ...T) T {
	return list[random.Intn(len(list))]
}

// randomProblem is valid, with at least one workload and node.
func randomProblem(random *rand.Rand) api.Problem {
	p := api.Problem{Works: wide("0", "9", "a", "aa", "b", "web", "zz", "zzzzzzzzzzzz"), Nodes: row("1", "a", "b", "b1", "m", "n", "web", "zzzzzzzzzzzz")}
	p.Works, p.Nodes = p.Works[random.Intn(8):], p.Nodes[:oneOf(random, 1, 2, 3, 4, 6, 8, 8, 8)]
	cells := oneOf(random, 1, 1, 2, 3)
	for i := range p.Works {
		w := &p.Works[i]
		w.Want, w.Prio, w.PerNode, w.PerCell = oneOf(random, 1, 5, 9, 16), random.Intn(10), oneOf(random, 1, 2, 3, 4, 16), oneOf(random, 3, 6, 16, 16)
		w.Selector = oneOf(random, "", "", "", "", "", "", "gpu", "!gpu", "zone=a", "zone!=a")
	}
	for i := range p.Nodes {
		n := &p.Nodes[i]
		n.Cell, n.Slots, n.Labels, n.Cordoned = random.Intn(cells), oneOf(random, 0, 1, 2, 3, 4, 4, 4, 4, 4), oneOf(random, "", "", "gpu=x", "zone=a", "gpu=y,zone=b"), random.Intn(10) == 0
	}
	return p
}

// randomPlacement fits, and has most replicas on some of the nodes.
func randomPlacement(random *rand.Rand, p api.Problem) []api.Bind {
	all := counts{}
	busy := 1 + random.Intn(len(p.Nodes))
	shift := random.Intn(len(p.Nodes))
	for range random.Intn(40) {
		n := p.Nodes[(shift+random.Intn(busy))%len(p.Nodes)]
		spot := [2]string{oneOf(random, p.Works...).ID, n.ID}
		all[spot]++
		if !place.Fits(p, listed(p, all)) {
			all[spot]--
		}
	}
	return listed(p, all)
}

// B1, B2, B3: random placements in problems of every size.
func TestRandomPlacements(t *testing.T) {
	random := rand.New(rand.NewSource(1))
	moved, moves, most := 0, 0, 0
	for range 1200 {
		p := randomProblem(random)
		l := randomPlacement(random, p)
		if !place.Fits(p, l) {
			t.Fatalf("%v does not fit %v", l, p)
		}
		now := check(t, p, l)
		checkTheorem(t, p, l)
		moves, most = moves+now, max(most, now)
		if now > 0 {
			moved++
		}
	}
	if moved < 500 || moves < 1200 || most < 8 {
		t.Error("only so many were moved, with so many moves, at most so many:", moved, moves, most)
	}
}

// placements are all that fit a problem and have those counts; the spots are still to be tried.
func placements(p api.Problem, all counts, spots [][2]string) [][]api.Bind {
	if len(spots) == 0 {
		return [][]api.Bind{listed(p, all)}
	}
	var found [][]api.Bind
	for all[spots[0]] = 0; place.Fits(p, listed(p, all)); all[spots[0]]++ {
		found = append(found, placements(p, all, spots[1:])...)
	}
	all[spots[0]] = 0
	return found
}

// B1, B2, B3: all placements that fit small problems.
func TestAllSmallPlacements(t *testing.T) {
	random := rand.New(rand.NewSource(2))
	tried, moved := 0, 0
	for range 100 {
		p := randomProblem(random)
		p.Works, p.Nodes = p.Works[:min(2, len(p.Works))], p.Nodes[:min(3, len(p.Nodes))]
		for i := range p.Nodes {
			p.Nodes[i].Slots = min(p.Nodes[i].Slots, 3)
		}
		var spots [][2]string
		for _, w := range p.Works {
			for _, n := range p.Nodes {
				spots = append(spots, [2]string{w.ID, n.ID})
			}
		}
		for _, l := range placements(p, counts{}, spots) {
			tried++
			if check(t, p, l) > 0 {
				moved++
			}
			checkTheorem(t, p, l)
		}
	}
	if tried < 2500 || moved < 600 {
		t.Error("of so many placements so many were moved:", tried, moved)
	}
}

// bent is a placement with something changed: it may fit or not.
func bent(random *rand.Rand, p api.Problem, l []api.Bind) []api.Bind {
	if len(l) == 0 || random.Intn(4) == 0 {
		l = append(l, on(oneOf(random, p.Nodes...).ID, oneOf(random, p.Works...).ID, oneOf(random, 1, 1, 2, 0)))
	}
	b := &l[random.Intn(len(l))]
	switch random.Intn(5) {
	case 0:
		b.Count += oneOf(random, -2, -1, 1, 2, 16, math.MaxInt)
	case 1:
		b.Node = oneOf(random, "", "x", oneOf(random, p.Nodes...).ID)
	case 2:
		b.Work = oneOf(random, "", "x", oneOf(random, p.Works...).ID)
	case 3:
		*b = oneOf(random, l...)
	default:
		return l[:len(l)-random.Intn(2)]
	}
	return l
}

// B1, B2: placements that nearly fit, and problems that are nearly valid.
func TestBentPlacements(t *testing.T) {
	random := rand.New(rand.NewSource(3))
	fitting := 0
	for range 1500 {
		p := randomProblem(random)
		l := bent(random, p, randomPlacement(random, p))
		w, n := &p.Works[random.Intn(len(p.Works))], &p.Nodes[random.Intn(len(p.Nodes))]
		if random.Intn(2) == 0 {
			*oneOf(random, &w.Want, &w.Prio, &w.PerNode, &w.PerCell, &n.Cell, &n.Slots) += oneOf(random, -2, -1, 1, 2)
		}
		check(t, p, l)
		if place.Fits(p, l) {
			fitting++
			checkTheorem(t, p, l)
		}
	}
	if fitting < 200 || fitting > 1300 {
		t.Error("of 1500 did fit:", fitting)
	}
}

// R1: long lists and long texts are refused.
func TestHugeInputs(t *testing.T) {
	p := api.Problem{Works: wide("a"), Nodes: row("m", "n")}
	text := strings.Repeat("a", 1<<22)
	for _, l := range [][]api.Bind{make([]api.Bind, 1<<20), slices.Repeat([]api.Bind{on("m", "a", 1)}, 1<<20), {on("m", text, 1)}, {on(text, "a", 1)}} {
		if got := even(p, l); !got.same(refused) || len(balance.Loads(p, l)) != 0 || balance.Squares(p, l) != 0 {
			t.Errorf("%d binds are taken", len(l))
		}
	}
	for _, p := range []api.Problem{{Works: make([]api.Work, 1<<20)}, {Nodes: make([]api.Node, 1<<20)}, {Works: wide(text), Nodes: row("m")}, {Works: wide("a"), Nodes: row(text)}} {
		if got := even(p, nil); !got.same(refused) || len(balance.Loads(p, nil)) != 0 || balance.Squares(p, nil) != 0 {
			t.Errorf("a problem with %d workloads and %d nodes is taken", len(p.Works), len(p.Nodes))
		}
	}
}

// behind is a copy of a list with memory behind its length.
func behind[T any](list []T) []T {
	return append(slices.Clone(list), list...)[:len(list)]
}

// ownTexts is a problem and a placement of which nobody else has the lists, nor the names.
func ownTexts() (api.Problem, []api.Bind) {
	p := api.Problem{Works: behind(wide("a", "b")), Nodes: behind(row("m", "n", "o"))}
	l := behind([]api.Bind{on("m", "a", 3), on("m", "b", 1), on("o", "b", 2)})
	for i := range p.Works {
		p.Works[i].ID = strings.Clone(p.Works[i].ID)
	}
	for i := range p.Nodes {
		p.Nodes[i].ID = strings.Clone(p.Nodes[i].ID)
	}
	for i, b := range l {
		l[i].Work, l[i].Node = strings.Clone(b.Work), strings.Clone(b.Node)
	}
	return p, l
}

// R3: arguments stay as they are, also behind their length, and answers do, whatever becomes of the arguments.
func TestArgumentsAreLeftAlone(t *testing.T) {
	p, l := ownTexts()
	got, now := even(p, l), balance.Loads(p, l)
	balance.Squares(p, l)
	even(p, l[:2:2])
	even(p, l[1:])
	before, list := ownTexts()
	if !reflect.DeepEqual(p.Works[:4], before.Works[:4]) || !reflect.DeepEqual(p.Nodes[:6], before.Nodes[:6]) || !slices.Equal(l[:6], list[:6]) {
		t.Error("changed:", p, l)
	}
	clear(p.Works)
	clear(p.Nodes)
	clear(l)
	if !got.same(want(before, list)) || got.moves == 0 || !slices.Equal(now, []int{4, 0, 2}) {
		t.Error("answers changed with the arguments:", got, now)
	}
}

// shares reports whether two texts begin at the same place.
func shares(a, b string) bool {
	return unsafe.StringData(a) == unsafe.StringData(b)
}

// R3: the names in an answer are new memory, too, in each bind.
func TestNamesAreNewMemory(t *testing.T) {
	p, l := ownTexts()
	got := even(p, l).binds
	if len(got) < 3 {
		t.Fatal("too few:", got)
	}
	for i, b := range got {
		for _, w := range p.Works {
			if shares(b.Work, w.ID) {
				t.Errorf("%v has the name of a workload", b)
			}
		}
		for _, n := range p.Nodes {
			if shares(b.Node, n.ID) {
				t.Errorf("%v has the name of a node", b)
			}
		}
		for _, x := range append(slices.Clone(l), got[:i]...) {
			if shares(b.Work, x.Work) || shares(b.Node, x.Node) {
				t.Errorf("%v has a name of %v", b, x)
			}
		}
	}
}

// R3, R4: answers may be changed and extended without a change of another one, and of the arguments; all calls answer the same.
func TestAnswersAreNewMemory(t *testing.T) {
	p, l := ownTexts()
	still := []api.Bind{on("m", "a", 1), on("n", "b", 1)} // Nothing moves here.
	for _, l := range [][]api.Bind{l, still} {
		before := slices.Clone(l)
		kept, sums := want(p, before), loads(p, before)
		first, second := even(p, l), even(p, l)
		some, others := balance.Loads(p, l), balance.Loads(p, l)
		whole, every := first.binds[:cap(first.binds)], some[:cap(some)]
		for i := range whole {
			whole[i] = on("k", "k", 7)
		}
		for i := range every {
			every[i] = 77
		}
		if !second.same(kept) || !slices.Equal(others, sums) || !slices.Equal(l, before) {
			t.Errorf("answers to %v share memory", before)
		}
		for range 20 {
			check(t, p, l)
		}
	}
}
