package share_test

import (
	"math"
	"math/big"
	"math/rand"
	"slices"
	"strconv"
	"strings"
	"testing"
	"unsafe"

	"billet/api"
	"billet/share"
)

// The chapter's words, anew: replica by replica, and what is compared or added up is so in numbers without an end.

// number is the number as which one counts.
func number(n int) int {
	switch {
	case n < 0:
		return 0
	case n > 1000:
		return 1000
	}
	return n
}

// total is the sum of numbers, each as it counts.
func total(l []int) *big.Int {
	sum := new(big.Int)
	for _, n := range l {
		sum.Add(sum, big.NewInt(int64(number(n))))
	}
	return sum
}

// unknown is whether it is unknown of some cell how many replicas it may be running.
func unknown(held []int) bool {
	return slices.ContainsFunc(held, func(h int) bool { return h < 0 })
}

// shared is Share of A1: each cell keeps what it has, as far as its target goes, and then gets one more as long as it may.
func shared(want int, held, target []int) []int {
	if len(held) != len(target) || len(held) > 16 {
		return nil
	}
	room := new(big.Int).Sub(big.NewInt(int64(number(want))), total(held))
	if unknown(held) {
		room.SetInt64(0)
	}
	var result []int
	for i := range held {
		n := 0
		for held[i] >= 0 && n < number(target[i]) && (n < number(held[i]) || room.Sign() > 0) {
			if n >= number(held[i]) {
				room.Sub(room, big.NewInt(1))
			}
			n++
		}
		result = append(result, n)
	}
	return result
}

// isAllowed is how many replicas of a workload are allowed.
func isAllowed(work string, works []string, allowed []int) int {
	if i := slices.Index(works, work); i >= 0 {
		return number(allowed[i])
	}
	return 0
}

// of is the sum of the Counts of the binds with a Work, and with a Node if there is one.
func of(l []api.Bind, work string, node ...string) int {
	sum := 0
	for _, b := range l {
		if b.Work == work && (len(node) == 0 || b.Node == node[0]) {
			sum += number(b.Count)
		}
	}
	return sum
}

// trimmed is Trim of A2.
func trimmed(target, last []api.Bind, works []string, allowed []int) []api.Bind {
	if len(works) != len(allowed) {
		return nil
	}
	given := slices.Clone(target)
	for i := range given {
		given[i].Count = 0
	}
	// No more is assigned to a bind than pass tells, and none of a workload of which all is assigned that is allowed.
	assign := func(pass func(b api.Bind) int) {
		for i, b := range target {
			for given[i].Count < number(b.Count) && given[i].Count < pass(b) && of(given, b.Work) < isAllowed(b.Work, works, allowed) {
				given[i].Count++
			}
		}
	}
	assign(func(b api.Bind) int { return of(last, b.Work, b.Node) })
	assign(func(b api.Bind) int { return math.MaxInt })
	return slices.DeleteFunc(given, func(b api.Bind) bool { return b.Count == 0 })
}

// sameShare is whether Share answers what the words say.
func sameShare(t *testing.T, want int, held, target []int) bool {
	t.Helper()
	got, wanted := share.Share(want, held, target), shared(want, held, target)
	if !slices.Equal(got, wanted) {
		t.Errorf("Share(%d, %v, %v): %v, want %v", want, held, target, got, wanted)
		return false
	}
	return true
}

// sameTrim is whether Trim answers what the words say.
func sameTrim(t *testing.T, target, last []api.Bind, works []string, allowed []int) bool {
	t.Helper()
	got, wanted := share.Trim(target, last, works, allowed), trimmed(target, last, works, allowed)
	if !slices.Equal(got, wanted) {
		t.Errorf("Trim(%v, %v, %q, %v): %v, want %v", target, last, works, allowed, got, wanted)
		return false
	}
	return true
}

func bind(work, node string, count int) api.Bind {
	return api.Bind{Work: work, Node: node, Count: count}
}

// edges are numbers around those where a limit is.
var edges = []int{math.MinInt, math.MinInt + 1, math.MinInt32, -1001, -1000, -1, 0, 1, 2, 499, 500, 501, 999, 1000, 1001, 1002, 2000, math.MaxInt32, math.MaxUint32 + 3, math.MaxInt - 1, math.MaxInt}

func TestExample(t *testing.T) {
	for _, x := range []struct{ held, target, want []int }{
		{[]int{3, 0}, []int{1, 4}, []int{1, 2}},
		{[]int{1, 2}, []int{1, 4}, []int{1, 4}},
		{[]int{-1, 0}, []int{1, 4}, []int{0, 0}},
	} {
		if got := share.Share(5, x.held, x.target); !slices.Equal(got, x.want) {
			t.Errorf("Share(5, %v, %v): %v", x.held, x.target, got)
		}
	}
}

// A1.

func TestShare(t *testing.T) {
	for _, x := range []struct {
		what               string
		want               int
		held, target, give []int
	}{
		{"no cell", 5, nil, nil, nil},
		{"nothing held", 5, []int{0, 0, 0}, []int{2, 0, 3}, []int{2, 0, 3}},
		{"the first cells get the room", 5, []int{0, 0, 0}, []int{3, 3, 3}, []int{3, 2, 0}},
		{"a target of what is held", 5, []int{2, 2}, []int{2, 3}, []int{2, 3}},
		{"what a cell gives up is no room yet", 4, []int{4, 0}, []int{0, 4}, []int{0, 0}},
		{"some room", 6, []int{4, 0}, []int{0, 4}, []int{0, 2}},
		{"the room is shared by the cells in order", 10, []int{1, 2, 3}, []int{3, 9, 9}, []int{3, 4, 3}},
		{"room behind a cell that gives up", 7, []int{3, 3, 0}, []int{1, 9, 9}, []int{1, 4, 0}},
		{"more held than wanted", 3, []int{4, 1}, []int{5, 5}, []int{4, 1}},
		{"all held", 5, []int{4, 1}, []int{5, 5}, []int{4, 1}},
		{"one more than held", 6, []int{4, 1}, []int{5, 5}, []int{5, 1}},
		{"a target of none", 5, []int{4, 1}, []int{0, 0}, []int{0, 0}},
		{"more wanted than targets", 100, []int{1, 0}, []int{2, 3}, []int{2, 3}},
		{"nothing wanted", 0, []int{0, 2}, []int{4, 4}, []int{0, 2}},
		{"unknown at the beginning", 9, []int{-1, 2, 0}, []int{3, 1, 3}, []int{0, 1, 0}},
		{"unknown in the middle", 9, []int{2, -1, 1}, []int{3, 4, 1}, []int{2, 0, 1}},
		{"unknown at the end", 9, []int{2, 1, -7}, []int{3, 0, 3}, []int{2, 0, 0}},
		{"all unknown", 9, []int{-1, -2, math.MinInt}, []int{3, 0, -3}, []int{0, 0, 0}},
	} {
		if got := share.Share(x.want, x.held, x.target); !slices.Equal(got, x.give) {
			t.Errorf("%s: %v, want %v", x.what, got, x.give)
		}
	}
}

// TestShareLimits: a number less than 0 is 0, one above 1000 is 1000, but a negative one in held is unknown.
func TestShareLimits(t *testing.T) {
	for _, x := range []struct {
		want               int
		held, target, give []int
	}{
		{-1, []int{0, 1}, []int{4, 4}, []int{0, 1}},
		{math.MinInt, []int{0, 1}, []int{4, 4}, []int{0, 1}},
		{999, []int{0}, []int{5000}, []int{999}},
		{1000, []int{0}, []int{5000}, []int{1000}},
		{1001, []int{0}, []int{5000}, []int{1000}},
		{math.MaxInt, []int{0, 0}, []int{999, 999}, []int{999, 1}},
		{1001, []int{0, 0}, []int{1000, 1000}, []int{1000, 0}},
		{1000, []int{0, 0}, []int{-1, 4}, []int{0, 4}},
		{1000, []int{5, 0}, []int{math.MinInt, 999}, []int{0, 995}},
		{1000, []int{3}, []int{1001}, []int{1000}},
		{1000, []int{3}, []int{math.MaxInt}, []int{1000}},
		{1000, []int{999, 0}, []int{999, 5}, []int{999, 1}},
		{5000, []int{1001, 0}, []int{2000, 5}, []int{1000, 0}},
		{5000, []int{math.MaxInt, 0}, []int{7, 5}, []int{7, 0}},
		{5000, []int{math.MaxInt, math.MaxInt, 0}, []int{2000, 1000, 5}, []int{1000, 1000, 0}},
		{5000, []int{math.MinInt, 7, 0}, []int{2000, 1000, 5}, []int{0, 7, 0}},
	} {
		if got := share.Share(x.want, x.held, x.target); !slices.Equal(got, x.give) {
			t.Errorf("Share(%d, %v, %v): %v, want %v", x.want, x.held, x.target, got, x.give)
		}
	}
	for _, want := range edges {
		for _, held := range edges {
			for _, target := range edges {
				sameShare(t, want, []int{held}, []int{target})
				sameShare(t, want, []int{held, 0}, []int{target, 700})
				sameShare(t, want, []int{300, held, 0}, []int{100, target, math.MaxInt})
				sameShare(t, want, []int{0, target, held}, []int{want, held, target})
			}
		}
	}
}

// TestShareLengths: up to 16 cells, as many of both lists.
func TestShareLengths(t *testing.T) {
	for n := range 40 {
		for m := range 40 {
			held, target := make([]int, n), make([]int, m)
			for i := range target {
				target[i] = i%3 + 1
			}
			got := share.Share(20, held, target)
			switch {
			case n != m || n > 16:
				if len(got) != 0 {
					t.Errorf("%d and %d elements: %v", n, m, got)
				}
			case len(got) != n:
				t.Errorf("%d elements: %v", n, got)
			default:
				sameShare(t, 20, held, target)
			}
		}
	}
	sixteen := []int{0, 3, 1, 0, 2, 0, 0, 4, 1, 1, 0, 0, 2, 0, 1, 5}
	sameShare(t, 24, sixteen, slices.Repeat([]int{2}, 16))
	sameShare(t, 1000, sixteen, slices.Repeat([]int{200}, 16))
	for i := range sixteen {
		held := slices.Clone(sixteen)
		held[i] = -1
		sameShare(t, 1000, held, slices.Repeat([]int{2}, 16))
	}
}

// tuples calls visit with all lists of n of the numbers from low to high.
func tuples(n, low, high int, visit func(l []int)) {
	l := make([]int, n)
	var fill func(i int)
	fill = func(i int) {
		if i == n {
			visit(l)
			return
		}
		for l[i] = low; l[i] <= high; l[i]++ {
			fill(i + 1)
		}
	}
	fill(0)
}

// smallShares calls visit with all small arguments of up to 3 cells.
func smallShares(visit func(want int, held, target []int)) {
	for n := range 4 {
		for want := -1; want <= 6; want++ {
			tuples(2*n, -1, 3, func(l []int) { visit(want, slices.Clone(l[:n]), slices.Clone(l[n:])) })
		}
	}
}

func TestShareSmall(t *testing.T) {
	smallShares(func(want int, held, target []int) {
		if !t.Failed() {
			sameShare(t, want, held, target)
		}
	})
}

// randomNumber is small, or at an edge.
func randomNumber(random *rand.Rand, most int) int {
	if random.Intn(30) == 0 {
		return edges[random.Intn(len(edges))]
	}
	return random.Intn(most + 1)
}

func randomNumbers(random *rand.Rand, n, most int) []int {
	l := make([]int, n)
	for i := range l {
		l[i] = randomNumber(random, most)
	}
	return l
}

// randomShare is arguments of up to 16 cells.
func randomShare(random *rand.Rand) (int, []int, []int) {
	n := random.Intn(17)
	most := []int{2, 6, 200, 1100}[random.Intn(4)]
	return randomNumber(random, most*(n+1)), randomNumbers(random, n, most), randomNumbers(random, n, most)
}

func TestShareRandom(t *testing.T) {
	for seed := range int64(40000) {
		if want, held, target := randomShare(rand.New(rand.NewSource(seed))); !sameShare(t, want, held, target) {
			return
		}
	}
}

// A2.

func TestTrim(t *testing.T) {
	target := []api.Bind{bind("a", "m", 2), bind("a", "n", 3), bind("b", "m", 1), bind("b", "o", 2)}
	for _, x := range []struct {
		what    string
		last    []api.Bind
		works   []string
		allowed []int
		want    []api.Bind
	}{
		{"all allowed", nil, []string{"a", "b"}, []int{5, 3}, target},
		{"more allowed", nil, []string{"a", "b"}, []int{6, 1000}, target},
		{"the first binds get what is allowed", nil, []string{"a", "b"}, []int{4, 2}, []api.Bind{bind("a", "m", 2), bind("a", "n", 2), bind("b", "m", 1), bind("b", "o", 1)}},
		{"as much as the first bind has", nil, []string{"a", "b"}, []int{2, 1}, []api.Bind{bind("a", "m", 2), bind("b", "m", 1)}},
		{"less than the first bind has", nil, []string{"a", "b"}, []int{1, 0}, []api.Bind{bind("a", "m", 1)}},
		{"none", nil, []string{"a", "b"}, []int{0, 0}, nil},
		{"the workloads in another order", nil, []string{"b", "c", "a"}, []int{2, 9, 1}, []api.Bind{bind("a", "m", 1), bind("b", "m", 1), bind("b", "o", 1)}},
		{"a workload that is not named", nil, []string{"b"}, []int{2}, []api.Bind{bind("b", "m", 1), bind("b", "o", 1)}},
		{"no workload", nil, nil, nil, nil},
		{"a workload named twice", nil, []string{"a", "b", "a", "b"}, []int{1, 0, 5, 3}, []api.Bind{bind("a", "m", 1)}},
		{"what was last is kept first", []api.Bind{bind("a", "n", 3), bind("b", "o", 2)}, []string{"a", "b"}, []int{3, 2}, []api.Bind{bind("a", "n", 3), bind("b", "o", 2)}},
		{"and then more, in order", []api.Bind{bind("a", "n", 2), bind("b", "o", 1)}, []string{"a", "b"}, []int{3, 2}, []api.Bind{bind("a", "m", 1), bind("a", "n", 2), bind("b", "m", 1), bind("b", "o", 1)}},
		{"less is allowed than was last", []api.Bind{bind("a", "n", 2), bind("b", "o", 2)}, []string{"a", "b"}, []int{1, 1}, []api.Bind{bind("a", "n", 1), bind("b", "o", 1)}},
		{"more was last than the target has", []api.Bind{bind("a", "m", 9), bind("a", "n", 1)}, []string{"a", "b"}, []int{3, 0}, []api.Bind{bind("a", "m", 2), bind("a", "n", 1)}},
		{"last is added up", []api.Bind{bind("a", "n", 1), bind("a", "m", 0), bind("a", "n", 2)}, []string{"a", "b"}, []int{4, 0}, []api.Bind{bind("a", "m", 1), bind("a", "n", 3)}},
		{"last in another order", []api.Bind{bind("b", "o", 1), bind("a", "n", 1), bind("a", "m", 1)}, []string{"a", "b"}, []int{2, 1}, []api.Bind{bind("a", "m", 1), bind("a", "n", 1), bind("b", "o", 1)}},
		{"last on other nodes", []api.Bind{bind("a", "o", 2), bind("b", "n", 2), bind("c", "m", 2)}, []string{"a", "b", "c"}, []int{3, 2, 7}, []api.Bind{bind("a", "m", 2), bind("a", "n", 1), bind("b", "m", 1), bind("b", "o", 1)}},
	} {
		if got := share.Trim(target, x.last, x.works, x.allowed); !slices.Equal(got, x.want) {
			t.Errorf("%s: %v, want %v", x.what, got, x.want)
		}
	}
}

// TestTrimLengths: works and allowed have as many elements.
func TestTrimLengths(t *testing.T) {
	target := []api.Bind{bind("a", "m", 2)}
	for n := range 5 {
		for m := range 5 {
			works, allowed := slices.Repeat([]string{"a"}, n), slices.Repeat([]int{1}, m)
			got := share.Trim(target, target, works, allowed)
			if n == m && n > 0 {
				if !slices.Equal(got, []api.Bind{bind("a", "m", 1)}) {
					t.Errorf("%d elements: %v", n, got)
				}
			} else if len(got) != 0 {
				t.Errorf("%d and %d elements: %v", n, m, got)
			}
		}
	}
	if got := share.Trim(nil, target, []string{"a"}, []int{5}); len(got) != 0 {
		t.Errorf("no target: %v", got)
	}
}

// TestTrimLimits: a Count, and a number that is allowed, is from 0 to 1000.
func TestTrimLimits(t *testing.T) {
	for _, x := range []struct{ count, last, allowed, first, second int }{
		{2000, 0, math.MaxInt, 1000, 0}, {1001, 0, 1001, 1000, 0}, {1000, 0, 1001, 1000, 0}, {999, 0, 1001, 999, 1}, {999, 0, 1000, 999, 1}, {999, 0, 999, 999, 0},
		{-1, 0, 7, 0, 7}, {math.MinInt, 0, 7, 0, 7}, {0, 0, 7, 0, 7}, {1, 0, 7, 1, 6},
		{5, 0, -1, 0, 0}, {5, 0, math.MinInt, 0, 0}, {5, 0, 0, 0, 0}, {5, 0, 1, 1, 0},
		{5, -1, 7, 5, 2}, {5, math.MinInt, 7, 5, 2}, {5, 3, 7, 4, 3}, {5, 7, 7, 0, 7}, {5, 8, 7, 0, 7}, {5, math.MaxInt, 7, 0, 7},
		{5, 999, math.MaxInt, 1, 999}, {5, 1000, math.MaxInt, 0, 1000}, {5, 1001, math.MaxInt, 0, 1000}, {math.MaxInt, math.MaxInt, math.MaxInt, 0, 1000},
	} {
		target, last := []api.Bind{bind("a", "m", x.count), bind("a", "n", 3000)}, []api.Bind{bind("a", "n", x.last)}
		var want []api.Bind
		if x.first > 0 {
			want = append(want, bind("a", "m", x.first))
		}
		if x.second > 0 {
			want = append(want, bind("a", "n", x.second))
		}
		if got := share.Trim(target, last, []string{"a"}, []int{x.allowed}); !slices.Equal(got, want) {
			t.Errorf("%+v: %v", x, got)
		}
	}
	for _, a := range edges {
		for _, b := range edges {
			for _, c := range edges {
				target := []api.Bind{bind("a", "m", 600), bind("a", "n", a), bind("a", "o", 3)}
				sameTrim(t, target, []api.Bind{bind("a", "n", b)}, []string{"a"}, []int{c})
				sameTrim(t, target, []api.Bind{bind("a", "n", b), bind("a", "n", a), bind("a", "n", 2)}, []string{"a"}, []int{c})
				sameTrim(t, target, []api.Bind{bind("a", "o", b), bind("a", "o", c)}, []string{"a", "a"}, []int{c, b})
			}
		}
	}
}

// TestTrimLastLimits: each Count of last is limited, and not their sum.
func TestTrimLastLimits(t *testing.T) {
	target := []api.Bind{bind("a", "m", 5), bind("a", "n", 5)}
	for _, x := range []struct {
		counts []int
		want   int
	}{
		{[]int{-5, 3}, 3}, {[]int{3, -5}, 3}, {[]int{3, math.MinInt, 1}, 4}, {[]int{math.MaxInt, math.MaxInt, math.MaxInt}, 5}, {[]int{math.MinInt, math.MinInt, 2}, 2}, {[]int{math.MinInt, -1, 2, math.MinInt}, 2},
	} {
		var last []api.Bind
		for _, c := range x.counts {
			last = append(last, bind("a", "n", c))
		}
		got := share.Trim(target, last, []string{"a"}, []int{5})
		if of(got, "a", "n") != x.want || of(got, "a") != 5 {
			t.Errorf("%v: %v", x.counts, got)
		}
	}
}

// TestTrimTwice: each bind of a target that names a node twice stays a bind, and keeps what was last on the node by itself.
func TestTrimTwice(t *testing.T) {
	target := []api.Bind{bind("a", "m", 2), bind("a", "n", 2), bind("a", "m", 3), bind("b", "m", 1), bind("b", "m", 1)}
	for _, x := range []struct {
		last    []api.Bind
		allowed int
		want    []api.Bind
	}{
		{nil, 7, target[:3]},
		{nil, 5, []api.Bind{bind("a", "m", 2), bind("a", "n", 2), bind("a", "m", 1)}},
		{[]api.Bind{bind("a", "m", 2)}, 4, []api.Bind{bind("a", "m", 2), bind("a", "m", 2)}},
		{[]api.Bind{bind("a", "m", 2)}, 5, []api.Bind{bind("a", "m", 2), bind("a", "n", 1), bind("a", "m", 2)}},
		{[]api.Bind{bind("a", "m", 9)}, 5, []api.Bind{bind("a", "m", 2), bind("a", "m", 3)}},
		{[]api.Bind{bind("a", "m", 1)}, 1, []api.Bind{bind("a", "m", 1)}},
		{[]api.Bind{bind("a", "n", 1)}, 2, []api.Bind{bind("a", "m", 1), bind("a", "n", 1)}},
	} {
		want := append(slices.Clone(x.want), target[3:]...)
		if got := share.Trim(target, x.last, []string{"a", "b"}, []int{x.allowed, 2}); !slices.Equal(got, want) {
			t.Errorf("%v, %d: %v", x.last, x.allowed, got)
		}
	}
}

// TestTrimNames: names are compared byte by byte, whatever they are, and Work and Node apart.
func TestTrimNames(t *testing.T) {
	names := []string{"", "a", "ab", "A", "b", "a\x00", "\x00", "\xff", "a b", "ab\x00", strings.Repeat("x", 300)}
	for _, work := range names {
		for _, node := range names {
			for _, other := range names {
				target := []api.Bind{bind("a", "b", 3), bind("", "", 1), bind(work, node, 2)}
				sameTrim(t, target, []api.Bind{bind(node, work, 2), bind(other, node, 1), bind(work, other, 1)}, []string{other, work, "a"}, []int{1, 2, 3})
				sameTrim(t, target, []api.Bind{bind(work+node, "", 2), bind("", work+node, 2), bind(work, node, 1)}, []string{"a", other, node, work}, []int{3, 1, 2, 4})
			}
		}
	}
	target := []api.Bind{bind("ab", "c", 2), bind("a", "bc", 2)}
	if got := share.Trim(target, []api.Bind{bind("a", "bc", 2)}, []string{"a", "ab"}, []int{1, 1}); !slices.Equal(got, []api.Bind{bind("ab", "c", 1), bind("a", "bc", 1)}) {
		t.Errorf("names: %v", got)
	}
	if got := share.Trim([]api.Bind{bind("", "", 2)}, nil, []string{""}, []int{1}); !slices.Equal(got, []api.Bind{bind("", "", 1)}) {
		t.Errorf("empty names: %v", got)
	}
}

// lists calls visit with all lists of up to n of these binds.
func lists(n int, binds []api.Bind, visit func(l []api.Bind)) {
	var extend func(l []api.Bind)
	extend = func(l []api.Bind) {
		visit(l)
		if len(l) < n {
			for _, b := range binds {
				extend(append(slices.Clip(l), b))
			}
		}
	}
	extend(nil)
}

// smallTrims calls visit with all small arguments: up to 3 binds of targets, and up to 2 of what was last.
func smallTrims(visit func(target, last []api.Bind, works []string, allowed []int)) {
	var binds []api.Bind
	for _, work := range []string{"a", "b"} {
		for _, node := range []string{"m", "n"} {
			binds = append(binds, bind(work, node, 1), bind(work, node, 2))
		}
	}
	works := []string{"b", "a"}
	lists(3, binds, func(target []api.Bind) {
		lists(2, binds, func(last []api.Bind) {
			for _, allowed := range [][]int{{0, 1}, {0, 3}, {1, 1}, {1, 2}, {2, 0}, {2, 3}, {3, 2}, {4, 4}, {6, 6}} {
				visit(target, last, works, allowed)
			}
		})
	})
}

func TestTrimSmall(t *testing.T) {
	smallTrims(func(target, last []api.Bind, works []string, allowed []int) {
		if !t.Failed() {
			sameTrim(t, target, last, works, allowed)
		}
	})
}

func randomBinds(random *rand.Rand, n, most int) []api.Bind {
	l := make([]api.Bind, random.Intn(n+1))
	for i := range l {
		l[i] = bind(string(rune('a'+random.Intn(4))), string(rune('m'+random.Intn(4))), randomNumber(random, most))
	}
	return l
}

// changed is binds of which some have gone, and some have other Counts.
func changed(random *rand.Rand, l []api.Bind) []api.Bind {
	var other []api.Bind
	for _, b := range l {
		if random.Intn(3) == 0 {
			b.Count += random.Intn(5) - 2
		}
		if random.Intn(4) > 0 {
			other = append(other, b)
		}
	}
	return other
}

// randomTrim is arguments that may name nodes and workloads twice, or not at all; what was last is often near the target.
func randomTrim(random *rand.Rand) ([]api.Bind, []api.Bind, []string, []int) {
	most := []int{2, 5, 700}[random.Intn(3)]
	target, last := randomBinds(random, 12, most), randomBinds(random, 12, most)
	if random.Intn(2) == 0 {
		last = changed(random, target)
	}
	works := make([]string, random.Intn(7))
	for i := range works {
		works[i] = string(rune('a' + random.Intn(5)))
	}
	return target, last, works, randomNumbers(random, len(works), 3*most)
}

func TestTrimRandom(t *testing.T) {
	for seed := range int64(20000) {
		if target, last, works, allowed := randomTrim(rand.New(rand.NewSource(seed))); !sameTrim(t, target, last, works, allowed) {
			return
		}
	}
}

// A3.

// keepsShare fails the test unless what Share answers is what the theorem says. Of a cell of which it is unknown what it may be running, nothing is held that could be added up.
func keepsShare(t *testing.T, want int, held, target []int) {
	t.Helper()
	got := share.Share(want, held, target)
	running := slices.Clone(held)
	beyond := false
	for i := range held {
		if got[i] < 0 || got[i] > number(target[i]) {
			t.Errorf("Share(%d, %v, %v): %v is not within the targets", want, held, target, got)
		}
		if held[i] < 0 && got[i] != 0 {
			t.Errorf("Share(%d, %v, %v): %v for an unknown cell", want, held, target, got)
		}
		running[i] = max(number(held[i]), got[i])
		beyond = beyond || number(held[i]) > number(target[i])
	}
	wanted := big.NewInt(int64(number(want)))
	if total(running).Cmp(wanted) > 0 && total(running).Cmp(total(held)) != 0 {
		t.Errorf("Share(%d, %v, %v): %v lets more run than are wanted", want, held, target, got)
	}
	if !beyond && !unknown(held) && total(target).Cmp(wanted) <= 0 && total(got).Cmp(total(target)) != 0 {
		t.Errorf("Share(%d, %v, %v): %v is not the target", want, held, target, got)
	}
}

func TestTheoremShare(t *testing.T) {
	smallShares(func(want int, held, target []int) {
		if !t.Failed() {
			keepsShare(t, want, held, target)
		}
	})
	for _, want := range edges {
		for _, a := range edges {
			for _, b := range edges {
				keepsShare(t, want, []int{a, 0}, []int{b, 500})
				keepsShare(t, want, []int{a, b}, []int{b, a})
				keepsShare(t, want, []int{0, 0, 0}, []int{a, b, 2})
			}
		}
	}
	for seed := range int64(40000) {
		if want, held, target := randomShare(rand.New(rand.NewSource(seed))); !t.Failed() {
			keepsShare(t, want, held, target)
		}
	}
}

// TestTheoremMove: cells whose numbers wander towards new targets never run more than are wanted, and arrive there, however slowly they tell what they let go.
func TestTheoremMove(t *testing.T) {
	for seed := range int64(5000) {
		random := rand.New(rand.NewSource(seed))
		n, want := random.Intn(16)+1, random.Intn(30)
		held, target := split(random, n, want), split(random, n, want)
		for steps := 0; !slices.Equal(held, target); steps++ {
			granted := share.Share(want, held, target)
			for i := range held {
				// Each cell has taken what it was granted, but not each one has told it.
				if held[i] = max(held[i], granted[i]); random.Intn(3) == 0 {
					held[i] = granted[i]
				}
			}
			if sum := total(held); sum.Cmp(big.NewInt(int64(want))) > 0 || steps > 5000 {
				t.Fatalf("seed %d: of %d cells hold %v behind %d steps, the targets are %v", seed, want, held, steps, target)
			}
		}
	}
}

// split is up to so many replicas in n cells.
func split(random *rand.Rand, n, most int) []int {
	l := make([]int, n)
	for range random.Intn(most + 1) {
		l[random.Intn(n)]++
	}
	return l
}

// isPart is whether binds are those of a placement, in its order, with no greater Counts, which are at least 1, and some of them left out.
func isPart(part, whole []api.Bind) bool {
	for _, b := range whole {
		if len(part) > 0 && part[0].Work == b.Work && part[0].Node == b.Node && part[0].Count >= 1 && part[0].Count <= b.Count {
			part = part[1:]
		}
	}
	return len(part) == 0
}

// keepsTrim fails the test unless what Trim answers is what the theorem says.
func keepsTrim(t *testing.T, target, last []api.Bind, works []string, allowed []int) {
	t.Helper()
	got := share.Trim(target, last, works, allowed)
	if !isPart(got, target) {
		t.Errorf("Trim(%v, %v, %q, %v): %v is not a part", target, last, works, allowed, got)
	}
	for _, b := range target {
		if sum, want := of(got, b.Work), min(of(target, b.Work), isAllowed(b.Work, works, allowed)); sum != want {
			t.Errorf("Trim(%v, %v, %q, %v): %v has %d of %s, want %d", target, last, works, allowed, got, sum, b.Work, want)
		}
	}
}

func TestTheoremTrim(t *testing.T) {
	smallTrims(func(target, last []api.Bind, works []string, allowed []int) {
		if !t.Failed() {
			keepsTrim(t, target, last, works, allowed)
		}
	})
	for seed := range int64(20000) {
		if target, last, works, allowed := randomTrim(rand.New(rand.NewSource(seed))); !t.Failed() {
			keepsTrim(t, target, last, works, allowed)
		}
	}
}

// TestTheoremKept: if the target is what was last, no replica is where none was; and if all of it is allowed, it is the result.
func TestTheoremKept(t *testing.T) {
	for seed := range int64(20000) {
		target, _, works, allowed := randomTrim(rand.New(rand.NewSource(seed)))
		got := share.Trim(target, target, works, allowed)
		for _, b := range got {
			if of(got, b.Work, b.Node) > of(target, b.Work, b.Node) {
				t.Fatalf("Trim(%v, the same, %q, %v): %v moves", target, works, allowed, got)
			}
		}
		whole := slices.DeleteFunc(target, func(b api.Bind) bool { return b.Count < 1 || b.Count > 80 })
		if got := share.Trim(whole, whole, []string{"d", "c", "b", "a"}, []int{1000, 1000, 1000, 1000}); !slices.Equal(got, whole) {
			t.Fatalf("Trim(%v, the same), all allowed: %v", whole, got)
		}
	}
}

// TestTheoremAgain: what was trimmed and then went out stays as it is when it is trimmed again, also if more is allowed of the target.
func TestTheoremAgain(t *testing.T) {
	smallTrims(func(target, last []api.Bind, works []string, allowed []int) {
		first := share.Trim(target, last, works, allowed)
		if again := share.Trim(first, first, works, allowed); !slices.Equal(again, first) {
			t.Fatalf("Trim(%v, the same, %q, %v): %v", first, works, allowed, again)
		}
		more := share.Trim(target, first, works, []int{allowed[0] + 1, allowed[1] + 1})
		for _, b := range first {
			if ones(target) && of(more, b.Work, b.Node) < of(first, b.Work, b.Node) {
				t.Fatalf("Trim(%v, %v, %q, %v): %v takes from a node", target, first, works, allowed, more)
			}
		}
	})
}

// ones is whether binds name no node of a workload twice.
func ones(l []api.Bind) bool {
	for i, b := range l {
		if slices.ContainsFunc(l[:i], func(c api.Bind) bool { return c.Work == b.Work && c.Node == b.Node }) {
			return false
		}
	}
	return true
}

// R1.

func TestLarge(t *testing.T) {
	const many = 1 << 20
	if got := share.Share(5, make([]int, many), make([]int, many)); len(got) != 0 {
		t.Errorf("many cells: %d elements", len(got))
	}
	target, last := make([]api.Bind, many), make([]api.Bind, many)
	works, allowed := make([]string, many), make([]int, many)
	for i := range target {
		name := strconv.Itoa(i / 4)
		target[i] = bind(name, strconv.Itoa(i%4), 2)
		last[many-1-i] = bind(name, strconv.Itoa(3-i%4), i%3)
		works[i], allowed[i] = strconv.Itoa(many-1-i), 5
	}
	got := share.Trim(target, last, works, allowed)
	sum := 0
	for _, b := range got {
		sum += b.Count
	}
	if sum != many/4*5 {
		t.Errorf("many workloads: %d replicas", sum)
	}
	for i := range target {
		target[i], last[i], works[i] = bind("a", "n", 1), bind("a", "n", math.MaxInt), "a"
	}
	if got := share.Trim(target, last, works, allowed); !slices.Equal(got, target[:5]) {
		t.Errorf("one workload: %v", got)
	}
	long := strings.Repeat("x", 1<<24)
	target = []api.Bind{bind(long, "n", 3), bind(long+"y", long, 4)}
	if got := share.Trim(target, target[1:], []string{long + "y", long}, []int{3, 2}); !slices.Equal(got, []api.Bind{bind(long, "n", 2), bind(long+"y", long, 3)}) {
		t.Errorf("long names: %d binds", len(got))
	}
}

// R3.

// lent returns a text whose memory may be changed.
func lent(s string) (string, []byte) {
	memory := []byte(s)
	return unsafe.String(unsafe.SliceData(memory), len(memory)), memory
}

// TestArgumentsNotKept: what comes in may be changed afterwards, also its texts' memory.
func TestArgumentsNotKept(t *testing.T) {
	held, target := []int{3, 0}, []int{1, 4}
	got := share.Share(5, held, target)
	held[0], held[1], target[0], target[1] = 7, 7, 7, 7
	if !slices.Equal(got, []int{1, 2}) {
		t.Errorf("Share: %v", got)
	}
	work, memory := lent("abc")
	node, memoryNode := lent("m")
	asked, memoryAsked := lent("abc")
	before, memoryBefore := lent("m")
	l := []api.Bind{{Work: work, Node: node, Count: 2}}
	last := []api.Bind{{Work: asked, Node: before, Count: 1}}
	works := []string{asked}
	binds := share.Trim(l, last, works, []int{2})
	for _, m := range [][]byte{memory, memoryNode, memoryAsked, memoryBefore} {
		copy(m, "zzz")
	}
	l[0], last[0], works[0] = bind("x", "y", 9), bind("x", "y", 9), "x"
	if !slices.Equal(binds, []api.Bind{bind("abc", "m", 2)}) {
		t.Errorf("Trim: %v", binds)
	}
}

// TestArgumentsNotChanged: neither what is in the lists nor what is behind their length.
func TestArgumentsNotChanged(t *testing.T) {
	held, target := []int{3, -1, 2000, 7}, []int{-4, 4, 5000, 7}
	heldBefore, targetBefore := slices.Clone(held), slices.Clone(target)
	for n := range 4 {
		share.Share(500, held[:n], target[:n])
		share.Share(500, held[:n], target[:3-n])
	}
	if !slices.Equal(held, heldBefore) || !slices.Equal(target, targetBefore) {
		t.Errorf("Share changed %v, %v", held, target)
	}
	whole := []api.Bind{bind("b", "m", 4), bind("a", "n", 5000), bind("c", "n", 1), bind("b", "m", -3), bind("spare", "o", 7)}
	last := []api.Bind{bind("b", "m", 2), bind("a", "n", -2), bind("a", "n", 2000), bind("b", "m", 2), bind("spare", "o", 7)}
	works, allowed := []string{"b", "a", "b", "spare"}, []int{3, 2000, -4, 9}
	wholeBefore, lastBefore, worksBefore, allowedBefore := slices.Clone(whole), slices.Clone(last), slices.Clone(works), slices.Clone(allowed)
	for n := range 5 {
		for m := range 4 {
			share.Trim(whole[:n], last[:n], works[:m], allowed[:m])
			share.Trim(whole[:n], whole[:n], works[:m], allowed[:3-m])
		}
	}
	if !slices.Equal(whole, wholeBefore) || !slices.Equal(last, lastBefore) || !slices.Equal(works, worksBefore) || !slices.Equal(allowed, allowedBefore) {
		t.Errorf("Trim changed %v, %v, %v, %v", whole, last, works, allowed)
	}
}

// TestResultsApart: neither the answers nor what is behind their length touch each other or the arguments.
func TestResultsApart(t *testing.T) {
	held, target := []int{1, 2, 3}, []int{1, 2, 3}
	first, second := share.Share(6, held, target), share.Share(6, held, target)
	fillNumbers(first)
	if !slices.Equal(second, []int{1, 2, 3}) || !slices.Equal(held, second) || !slices.Equal(target, second) {
		t.Errorf("Share: %v, %v, %v", second, held, target)
	}
	l := []api.Bind{bind("a", "m", 2), bind("a", "n", 1), bind("b", "m", 3)}
	want := slices.Clone(l)
	works, allowed := []string{"a", "b"}, []int{5, 5}
	some, more := share.Trim(l, l, works, allowed), share.Trim(l, l, works, allowed)
	some = some[:cap(some)]
	for i := range some {
		some[i] = bind("z", "z", 9)
	}
	if !slices.Equal(more, want) || !slices.Equal(l, want) {
		t.Errorf("Trim: %v, %v", more, l)
	}
}

// fillNumbers overwrites a list and what is behind its length.
func fillNumbers(l []int) {
	l = l[:cap(l)]
	for i := range l {
		l[i] = 99
	}
}

// R4.

// TestAgain: nothing is kept from call to call, whatever was asked between two that are alike.
func TestAgain(t *testing.T) {
	for seed := range int64(2000) {
		random := rand.New(rand.NewSource(seed))
		want, held, goal := randomShare(random)
		target, last, works, allowed := randomTrim(random)
		numbers, binds := share.Share(want, held, goal), share.Trim(target, last, works, allowed)
		otherWant, otherHeld, otherGoal := randomShare(random)
		share.Share(otherWant, otherHeld, otherGoal)
		share.Trim(randomTrim(random))
		if again := share.Share(want, held, goal); !slices.Equal(again, numbers) {
			t.Fatalf("Share(%d, %v, %v): %v, then %v", want, held, goal, numbers, again)
		}
		if again := share.Trim(target, last, works, allowed); !slices.Equal(again, binds) {
			t.Fatalf("Trim(%v, %v, %q, %v): %v, then %v", target, last, works, allowed, binds, again)
		}
	}
}
