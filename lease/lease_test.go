package lease_test

import (
	"math"
	"math/big"
	"math/rand"
	"slices"
	"strconv"
	"strings"
	"testing"
	"unsafe"

	"billet/api"
	"billet/lease"
)

// end is the greatest time: 2^40.
const end = 1099511627776

// half is to where the theorem holds: 2^39.
const half = 549755813888

// The calls that change a book.
const (
	doLearn = iota
	doSent
	doAcked
	doPass
)

// call is one of them with its arguments; n is a version, or Pass's time.
type call struct {
	kind, n, until int
	binds          []api.Bind
}

// Short forms for tables.
func learn(version, until int, l ...api.Bind) call { return call{doLearn, version, until, l} }
func sent(version, until int, l ...api.Bind) call  { return call{doSent, version, until, l} }
func acked(version int) call                       { return call{kind: doAcked, n: version} }
func pass(now int) call                            { return call{kind: doPass, n: now} }
func bind(work string, count int) api.Bind         { return api.Bind{Work: work, Node: "n", Count: count} }

func perform(b *lease.Book, c call) {
	switch c.kind {
	case doLearn:
		b.Learn(c.n, c.until, c.binds)
	case doSent:
		b.Sent(c.n, c.until, c.binds)
	case doAcked:
		b.Acked(c.n)
	case doPass:
		b.Pass(c.n)
	}
}

// play makes all calls on a new book.
func play(now int, calls []call) *lease.Book {
	b := lease.New(now)
	for _, c := range calls {
		perform(b, c)
	}
	return b
}

// The chapter's words, anew: what is so of a book is told from all calls that were made on it, in numbers without an end.

// time is the time as which an argument counts.
func time(n int) *big.Int {
	if n < -end {
		n = -end
	}
	if n > end {
		n = end
	}
	return big.NewInt(int64(n))
}

func plus(a *big.Int, n int64) *big.Int { return new(big.Int).Add(a, big.NewInt(n)) }

func atLeast(a, b *big.Int) bool { return a.Cmp(b) >= 0 }

// isOver is Over of E1.
func isOver(now, until int) bool { return atLeast(time(now), plus(time(until), 4)) }

// history is a book: the time at which it was made, and what was done with it.
type history struct {
	now   int
	calls []call
}

// known is whether it was learned, or passed to 28 ticks behind its making.
func (h history) known() bool {
	return slices.ContainsFunc(h.calls, func(c call) bool {
		return c.kind == doLearn || c.kind == doPass && atLeast(time(c.n), plus(time(h.now), 20+4+4))
	})
}

// has is whether the i-th call gave a grant that nothing later removed.
func (h history) has(i int) bool {
	g := h.calls[i]
	if g.kind != doLearn && g.kind != doSent {
		return false
	}
	for _, c := range h.calls[i+1:] {
		if c.kind == doLearn || c.kind == doAcked && g.n < c.n || c.kind == doPass && isOver(c.n, g.until) {
			return false
		}
	}
	return true
}

func (h history) held(work string) int {
	if !h.known() {
		return -1
	}
	most := big.NewInt(0)
	for i, c := range h.calls {
		if sum := total(c.binds, work); h.has(i) && sum.Cmp(most) > 0 {
			most = sum
		}
	}
	return int(most.Int64())
}

// total is how many replicas of a workload binds are.
func total(l []api.Bind, work string) *big.Int {
	sum := big.NewInt(0)
	for _, x := range l {
		switch {
		case x.Work != work || x.Count < 0:
		case x.Count > 1000:
			sum = plus(sum, 1000)
		default:
			sum = plus(sum, int64(x.Count))
		}
	}
	return sum
}

// same is whether a book answers what the words say.
func same(t *testing.T, b *lease.Book, h history, works ...string) bool {
	t.Helper()
	if got, want := b.Known(), h.known(); got != want {
		t.Errorf("New(%d), %+v: Known %v, want %v", h.now, h.calls, got, want)
		return false
	}
	for _, work := range works {
		if got, want := b.Held(work), h.held(work); got != want {
			t.Errorf("New(%d), %+v: Held(%q) %d, want %d", h.now, h.calls, work, got, want)
			return false
		}
	}
	return true
}

// is fails the test unless a book answers so of a workload: -1 if it is unknown.
func is(t *testing.T, what string, b *lease.Book, work string, want int) {
	t.Helper()
	if got := b.Held(work); got != want {
		t.Errorf("%s: Held(%q) %d, want %d", what, work, got, want)
	}
	if got := b.Known(); got != (want != -1) {
		t.Errorf("%s: Known %v", what, got)
	}
}

// edges are times around those where a limit is.
func edges() []int {
	all := []int{math.MinInt, math.MinInt + 1, math.MinInt + 24, math.MaxInt - 24, math.MaxInt - 1, math.MaxInt, math.MinInt32, math.MaxInt32, math.MaxUint32}
	for _, middle := range []int{-end, -half, 0, half, end} {
		for d := -30; d <= 30; d++ {
			all = append(all, middle+d)
		}
	}
	return all
}

func TestExample(t *testing.T) {
	if lease.Until(7) != 27 {
		t.Error("Until(7)")
	}
	if !lease.Holds(26, 27) {
		t.Error("Holds(26, 27)")
	}
	if lease.Over(30, 27) || !lease.Over(31, 27) {
		t.Error("Over")
	}
	b := lease.New(0)
	is(t, "New(0)", b, "a", -1)
	b.Pass(27)
	is(t, "Pass(27)", b, "a", -1)
	b.Pass(28)
	is(t, "Pass(28)", b, "a", 0)
}

// E1.

func TestUntil(t *testing.T) {
	for _, x := range []struct{ now, want int }{
		{0, 20}, {-1, 19}, {-20, 0}, {-21, -1}, {1000000, 1000020},
		{end - 21, end - 1}, {end - 20, end}, {end - 1, end + 19}, {end, end + 20}, {end + 1, end + 20}, {math.MaxInt, end + 20},
		{-end + 1, -end + 21}, {-end, -end + 20}, {-end - 1, -end + 20}, {math.MinInt, -end + 20},
	} {
		if got := lease.Until(x.now); got != x.want {
			t.Errorf("Until(%d) %d, want %d", x.now, got, x.want)
		}
	}
	for _, now := range edges() {
		if got, want := lease.Until(now), plus(time(now), 20); want.Cmp(big.NewInt(int64(got))) != 0 {
			t.Errorf("Until(%d) %d, want %d", now, got, want)
		}
	}
}

func TestHoldsAndOver(t *testing.T) {
	for _, x := range []struct {
		now, until  int
		holds, over bool
	}{
		{0, 1, true, false}, {0, 0, false, false}, {1, 0, false, false}, {3, 0, false, false}, {4, 0, false, true}, {5, 0, false, true},
		{-8, -7, true, false}, {-7, -7, false, false}, {-4, -7, false, false}, {-3, -7, false, true},
		{end - 1, end, true, false}, {end - 1, math.MaxInt, true, false}, {end, math.MaxInt, false, false}, {math.MaxInt, end, false, false},
		{math.MaxInt, end - 3, false, false}, {math.MaxInt, end - 4, false, true}, {end, end - 4, false, true}, {end - 1, end - 4, false, false},
		{math.MinInt, -end, false, false}, {-end, math.MinInt, false, false}, {math.MinInt, -end + 1, true, false},
		{-end + 3, math.MinInt, false, false}, {-end + 4, math.MinInt, false, true}, {-end + 3, -end, false, false}, {-end + 4, -end, false, true},
		{math.MinInt, math.MinInt, false, false}, {math.MaxInt, math.MaxInt, false, false},
		{math.MinInt, math.MaxInt, true, false}, {math.MaxInt, math.MinInt, false, true},
	} {
		if got := lease.Holds(x.now, x.until); got != x.holds {
			t.Errorf("Holds(%d, %d) %v", x.now, x.until, got)
		}
		if got := lease.Over(x.now, x.until); got != x.over {
			t.Errorf("Over(%d, %d) %v", x.now, x.until, got)
		}
	}
}

func TestHoldsAndOverEdges(t *testing.T) {
	for _, now := range edges() {
		for _, until := range edges() {
			if got := lease.Holds(now, until); got != (time(now).Cmp(time(until)) < 0) {
				t.Errorf("Holds(%d, %d) %v", now, until, got)
			}
			if got := lease.Over(now, until); got != isOver(now, until) {
				t.Errorf("Over(%d, %d) %v", now, until, got)
			}
		}
	}
}

// E2.

func TestNew(t *testing.T) {
	for _, now := range edges() {
		for _, d := range []int{-1, 0, 1, 19, 20, 21, 23, 24, 25, 26, 27, 28, 29, 60} {
			b, h := lease.New(now), history{now: now, calls: []call{pass(now + d)}}
			is(t, "new", b, "a", -1)
			perform(b, h.calls[0])
			same(t, b, h, "a", "")
		}
	}
}

// TestNewEnd: a book can't become known if the time would be behind the end.
func TestNewEnd(t *testing.T) {
	for _, x := range []struct {
		now, pass, want int
	}{
		{end - 28, end - 1, -1}, {end - 28, end, 0}, {end - 28, math.MaxInt, 0}, {end - 27, end, -1}, {end - 27, math.MaxInt, -1},
		{end, end + 28, -1}, {math.MaxInt, math.MaxInt, -1},
		{-end, -end + 27, -1}, {-end, -end + 28, 0}, {-end - 5, -end + 27, -1}, {-end - 5, -end + 28, 0},
		{math.MinInt, -end + 27, -1}, {math.MinInt, -end + 28, 0}, {math.MinInt, math.MinInt, -1}, {math.MinInt, math.MaxInt, 0},
	} {
		is(t, "New("+strconv.Itoa(x.now)+"), Pass("+strconv.Itoa(x.pass)+")", play(x.now, []call{pass(x.pass)}), "a", x.want)
	}
}

// TestPassBackwards: what has passed stays so, whatever a later reading is.
func TestPassBackwards(t *testing.T) {
	b := play(0, []call{pass(28), pass(27), pass(-50), pass(math.MinInt)})
	is(t, "known", b, "a", 0)
	b = play(0, []call{pass(20), pass(7), pass(27), pass(1)})
	is(t, "unknown: the ticks of several calls are not added up", b, "a", -1)
	b = play(0, []call{learn(1, 50, bind("a", 3)), pass(54), pass(53)})
	is(t, "over", b, "a", 0)
}

func TestPassGrants(t *testing.T) {
	for _, until := range edges() {
		for _, d := range []int{-1, 0, 1, 3, 4, 5, 40} {
			for _, kind := range []int{doLearn, doSent} {
				calls := []call{learn(1, 5, bind("a", 0)), {kind, 7, until, []api.Bind{bind("a", 3)}}, pass(until + d)}
				same(t, play(0, calls), history{0, calls}, "a")
			}
		}
	}
	for _, x := range []struct {
		until, pass, want int
	}{
		{50, 53, 3}, {50, 54, 0}, {50, 55, 0}, {50, math.MaxInt, 0}, {50, math.MinInt, 3},
		{end - 4, end - 1, 3}, {end - 4, end, 0}, {end - 3, end, 3}, {end - 3, math.MaxInt, 3}, {math.MaxInt, math.MaxInt, 3},
		{-end, -end + 3, 3}, {-end, -end + 4, 0}, {math.MinInt, -end + 3, 3}, {math.MinInt, -end + 4, 0}, {math.MinInt, math.MinInt, 3},
	} {
		is(t, "until "+strconv.Itoa(x.until)+", Pass("+strconv.Itoa(x.pass)+")", play(0, []call{learn(1, x.until, bind("a", 3)), pass(x.pass)}), "a", x.want)
	}
}

// TestPassEach: a grant leaves by its own time, neither by its place nor by its version.
func TestPassEach(t *testing.T) {
	for _, order := range [][]int{{30, 40, 50}, {30, 50, 40}, {40, 30, 50}, {40, 50, 30}, {50, 30, 40}, {50, 40, 30}} {
		b := lease.New(0)
		b.Learn(9, -100, nil)
		for i, until := range order {
			b.Sent(9-i, until, []api.Bind{bind("w"+strconv.Itoa(until), 1), bind("all", until)})
		}
		for _, x := range []struct{ pass, w30, w40, w50, all int }{{33, 1, 1, 1, 50}, {34, 0, 1, 1, 50}, {43, 0, 1, 1, 50}, {44, 0, 0, 1, 50}, {53, 0, 0, 1, 50}, {54, 0, 0, 0, 0}} {
			b.Pass(x.pass)
			is(t, "w30", b, "w30", x.w30)
			is(t, "w40", b, "w40", x.w40)
			is(t, "w50", b, "w50", x.w50)
			is(t, "all", b, "all", x.all)
		}
	}
}

// TestPassOnly: nothing but Pass removes what has run out.
func TestPassOnly(t *testing.T) {
	b := play(0, []call{pass(1000), learn(3, 5, bind("a", 2)), sent(4, 6, bind("a", 1)), sent(2, -7, bind("a", 4)), acked(2)})
	is(t, "run out", b, "a", 4)
	b.Acked(3)
	is(t, "acked", b, "a", 2)
	b.Pass(10)
	is(t, "passed", b, "a", 0)
}

func TestAcked(t *testing.T) {
	versions := []int{math.MinInt, math.MinInt + 1, -1, 0, 1, 2, math.MaxInt32, math.MaxUint32, end, end + 1, math.MaxInt - 1, math.MaxInt}
	for _, version := range versions {
		for _, ack := range versions {
			want := 3
			if version < ack {
				want = 0
			}
			b := play(0, []call{learn(version, 5, bind("a", 3)), acked(ack)})
			is(t, "Learn of "+strconv.Itoa(version)+", Acked("+strconv.Itoa(ack)+")", b, "a", want)
			b = play(0, []call{learn(ack, 5), sent(version, 5, bind("a", 3)), sent(version, 5, bind("b", 3)), acked(ack)})
			is(t, "Sent of "+strconv.Itoa(version)+", Acked("+strconv.Itoa(ack)+")", b, "a", want)
			is(t, "Sent of "+strconv.Itoa(version)+" again, Acked("+strconv.Itoa(ack)+")", b, "b", want)
		}
	}
}

// TestAckedLater: a grant that is added behind an Acked call stays, whatever its version.
func TestAckedLater(t *testing.T) {
	b := play(0, []call{learn(5, 90, bind("a", 1)), acked(7), sent(3, 90, bind("a", 2)), sent(6, 90, bind("a", 1))})
	is(t, "sent", b, "a", 2)
	b.Acked(4)
	is(t, "acked", b, "a", 1)
	b.Learn(1, 90, []api.Bind{bind("a", 6)})
	is(t, "learned", b, "a", 6)
}

// TestUnknown: what is done with an unknown book is kept for the time when it becomes known.
func TestUnknown(t *testing.T) {
	b := lease.New(0)
	b.Sent(1, 100, []api.Bind{bind("a", 5)})
	b.Sent(2, 90, []api.Bind{bind("a", 3)})
	b.Sent(3, 20, []api.Bind{bind("a", 9)})
	is(t, "sent", b, "a", -1)
	is(t, "sent", b, "b", -1)
	b.Acked(2)
	is(t, "acked", b, "a", -1)
	b.Pass(27)
	is(t, "passed", b, "a", -1)
	b.Pass(28)
	is(t, "known", b, "a", 3)
	is(t, "known", b, "b", 0)
}

func TestLearn(t *testing.T) {
	b := lease.New(0)
	b.Learn(4, 50, []api.Bind{bind("a", 2)})
	is(t, "unknown before", b, "a", 2)
	b.Sent(9, 90, []api.Bind{bind("a", 7), bind("b", 1)})
	b.Learn(3, 40, []api.Bind{bind("a", 1)})
	is(t, "this grant only", b, "a", 1)
	is(t, "this grant only", b, "b", 0)
	b.Learn(3, 40, nil)
	is(t, "without binds", b, "a", 0)
	b = play(0, []call{sent(5, 90, bind("a", 7)), learn(2, 3)})
	is(t, "sent before", b, "a", 0)
	b = play(1000, []call{learn(0, 5, bind("a", 1)), pass(0)})
	is(t, "known ahead of its time", b, "a", 1)
	b = play(1000, []call{learn(0, 5, bind("a", 1)), pass(9)})
	is(t, "known ahead of its time", b, "a", 0)
}

// E3.

func TestHeldCounts(t *testing.T) {
	for _, x := range []struct{ count, want int }{
		{math.MinInt, 0}, {-1000, 0}, {-1, 0}, {0, 0}, {1, 1}, {16, 16}, {17, 17}, {999, 999}, {1000, 1000}, {1001, 1000}, {math.MaxUint32 + 2, 1000}, {math.MaxInt, 1000},
	} {
		b := play(0, []call{learn(1, 50, bind("a", x.count))})
		is(t, "Count "+strconv.Itoa(x.count), b, "a", x.want)
		b = play(0, []call{learn(1, 50), sent(1, 50, bind("a", 5), bind("b", 1), bind("a", x.count), bind("a", 7))})
		is(t, "5, Count "+strconv.Itoa(x.count)+", 7", b, "a", 12+x.want)
		is(t, "beside it", b, "b", 1)
	}
}

func TestHeldSums(t *testing.T) {
	l := []api.Bind{{Work: "a", Node: "m", Count: 2}, {Work: "b", Node: "m", Count: 1}, {Work: "a", Node: "n", Count: 3}, {Work: "a", Node: "m", Count: 2}, {Work: "", Node: "m", Count: 8}, {Work: "a b\x00", Count: 11}}
	b := play(0, []call{learn(1, 50, l...)})
	for work, want := range map[string]int{"a": 7, "b": 1, "": 8, "a b\x00": 11, "a ": 0, "A": 0, "m": 0, "n": 0, "ab": 0} {
		is(t, "sum", b, work, want)
	}
	b = play(0, []call{learn(1, 50, bind("a", 1000), bind("a", 2000), bind("a", math.MaxInt), bind("a", math.MinInt), bind("a", 1))})
	is(t, "the sum is not limited", b, "a", 3001)
}

// TestHeldMost: of each workload the grant with the most of it counts, at any place.
func TestHeldMost(t *testing.T) {
	grants := []call{sent(1, 50, bind("a", 4), bind("b", 1)), sent(2, 50, bind("b", 5), bind("a", 2)), sent(3, 50, bind("c", 2), bind("a", 1), bind("c", 1)), sent(4, 50)}
	for _, order := range orders(len(grants)) {
		b := play(0, []call{learn(0, 50)})
		for _, i := range order {
			perform(b, grants[i])
		}
		is(t, "most", b, "a", 4)
		is(t, "most", b, "b", 5)
		is(t, "most", b, "c", 3)
		is(t, "none", b, "d", 0)
		b.Acked(2)
		is(t, "acked", b, "a", 2)
		b.Acked(3)
		is(t, "acked", b, "b", 0)
		b.Acked(4)
		is(t, "acked", b, "c", 0)
	}
}

// orders are all orders of n things.
func orders(n int) [][]int {
	if n == 0 {
		return [][]int{nil}
	}
	var all [][]int
	for _, o := range orders(n - 1) {
		for at := 0; at <= len(o); at++ {
			all = append(all, slices.Insert(slices.Clone(o), at, n-1))
		}
	}
	return all
}

// All sequences, and long ones.

// TestSmall makes all sequences of up to 5 of 11 calls, which meet at their edges.
func TestSmall(t *testing.T) {
	calls := []call{
		learn(1, 24, bind("a", 2)), learn(2, 20, bind("b", 1), bind("a", 1)),
		sent(1, 24, bind("a", 4)), sent(2, 24, bind("a", 3), bind("b", 2)), sent(3, 20, bind("a", 5)),
		acked(1), acked(2), acked(3),
		pass(24), pass(27), pass(28),
	}
	var extend func(h history)
	extend = func(h history) {
		if !same(t, play(0, h.calls), h, "a", "b") || len(h.calls) == 5 {
			return
		}
		for _, c := range calls {
			extend(history{0, append(slices.Clip(h.calls), c)})
		}
	}
	extend(history{})
}

func randomBinds(random *rand.Rand) []api.Bind {
	l := make([]api.Bind, random.Intn(5))
	for i := range l {
		l[i] = api.Bind{Work: string(rune('a' + random.Intn(3))), Node: "n", Count: random.Intn(6) - 1}
		if random.Intn(12) == 0 {
			l[i].Count = []int{999, 1000, 1001, math.MaxInt, math.MinInt}[random.Intn(5)]
		}
	}
	return l
}

// randomTime is near a time, or anywhere.
func randomTime(random *rand.Rand, near int) int {
	if random.Intn(40) == 0 {
		return edges()[random.Intn(len(edges()))]
	}
	return near + random.Intn(9) - 4
}

func randomCall(random *rand.Rand, now, version int) call {
	version += random.Intn(5) - 3
	switch random.Intn(16) {
	case 0:
		return learn(version, randomTime(random, now+10), randomBinds(random)...)
	case 1, 2, 3:
		return acked(version - 2)
	case 4, 5, 6, 7:
		return pass(randomTime(random, now))
	default:
		return sent(version, randomTime(random, now+10), randomBinds(random)...)
	}
}

func TestRandom(t *testing.T) {
	for seed := range int64(3000) {
		random := rand.New(rand.NewSource(seed))
		now := []int{0, 1000, -half, half, -end, end - 40}[random.Intn(6)]
		h := history{now: now}
		b := lease.New(now)
		version := 0
		for range 60 {
			c := randomCall(random, now, version)
			perform(b, c)
			h.calls = append(h.calls, c)
			if !same(t, b, h, "a", "b", "c", "d") {
				return
			}
			now += random.Intn(3)
			version += random.Intn(2)
		}
	}
}

// E4.

// moments are times from which the theorem is tested.
var moments = []int{-half + 30, -1000, 0, 77, half - 90}

// TestTheoremOver: what is Over by some clock holds by none from then on.
func TestTheoremOver(t *testing.T) {
	for _, moment := range moments {
		for until := moment - 20; until <= moment+20; until++ {
			for skew := -2; skew <= 2; skew++ {
				if lease.Over(moment+skew, until) && holdsFrom(moment, until) {
					t.Errorf("until %d: over by the reading %d at %d", until, moment+skew, moment)
				}
			}
		}
	}
}

// holdsFrom is whether a lease holds by any clock at a moment or within 60 ticks behind it.
func holdsFrom(moment, until int) bool {
	for time := moment; time <= moment+60; time++ {
		for skew := -2; skew <= 2; skew++ {
			if lease.Holds(time+skew, until) {
				return true
			}
		}
	}
	return false
}

// TestTheoremGiven: 24 ticks behind its giving a lease holds by no clock; one tick before, it may.
func TestTheoremGiven(t *testing.T) {
	for _, moment := range moments {
		may := false
		for skew := -2; skew <= 2; skew++ {
			until := lease.Until(moment + skew)
			if holdsFrom(moment+24, until) {
				t.Errorf("given at %d by the reading %d", moment, moment+skew)
			}
			may = may || holdsFrom(moment+23, until)
		}
		if !may {
			t.Errorf("given at %d: no lease lasts to the end", moment)
		}
	}
}

// TestTheoremNew: once a book has become known, no lease that was given before it holds.
func TestTheoremNew(t *testing.T) {
	for _, moment := range moments {
		for skew := -2; skew <= 2; skew++ {
			for later := moment; later <= moment+40; later++ {
				for passing := -2; passing <= 2; passing++ {
					b := lease.New(moment + skew)
					b.Pass(later + passing)
					for giving := -2; b.Known() && giving <= 2; giving++ {
						if until := lease.Until(moment + giving); holdsFrom(later, until) {
							t.Errorf("New(%d), Pass(%d): a lease given by the reading %d at %d holds", moment+skew, later+passing, moment+giving, moment)
						}
					}
				}
			}
		}
	}
}

// play of a cell: what the book of a placer has to stand.

// paper is a grant as it is sent.
type paper struct {
	version, until int
	binds          []api.Bind
}

// cell is a cell's grant, and what it has received.
type cell struct {
	has      paper
	received []int
}

// take is what a cell does with a grant that comes: it never goes back to a lower version.
func (c *cell) take(p paper, ifSame bool) {
	c.received = append(c.received, p.version)
	if p.version > c.has.version || p.version == c.has.version && ifSame {
		c.has = p
	}
}

// runs is the most that a cell runs of a workload, by the slowest of clocks.
func (c *cell) runs(time int, work string) int {
	if !lease.Holds(time-2, c.has.until) {
		return 0
	}
	return int(total(c.has.binds, work).Int64())
}

// TestTheoremCell: grants are sent, lost, doubled, delayed and overtaken, and versions come back.
func TestTheoremCell(t *testing.T) {
	for seed := range int64(2000) {
		random := rand.New(rand.NewSource(seed))
		time := moments[random.Intn(len(moments))]
		reading := func() int { return time + random.Intn(5) - 2 }
		first := paper{random.Intn(3), reading() + random.Intn(20), randomBinds(random)}
		c := &cell{first, []int{first.version}}
		b := lease.New(reading())
		b.Learn(first.version, first.until, first.binds)
		var under []paper
		version := first.version
		for range 120 {
			switch random.Intn(6) {
			case 0:
				version += random.Intn(4) - 1
				p := paper{version, lease.Until(reading()), randomBinds(random)}
				b.Sent(p.version, p.until, p.binds)
				under = append(under, p)
			case 1, 2:
				if len(under) > 0 {
					c.take(under[random.Intn(len(under))], random.Intn(2) == 0)
				}
			case 3:
				b.Acked(c.received[random.Intn(len(c.received))])
			case 4:
				b.Pass(reading())
			default:
				time += random.Intn(4)
			}
			for _, work := range []string{"a", "b", "c"} {
				if runs, held := c.runs(time, work), b.Held(work); runs > held {
					t.Fatalf("seed %d: the cell runs %d of %s, Held %d", seed, runs, work, held)
				}
			}
		}
	}
}

// TestTheoremCellLetsGo: the book is not greater than needed: what all grants behind an ack are less than is let go at once.
func TestTheoremCellLetsGo(t *testing.T) {
	b := play(0, []call{learn(1, 20, bind("a", 5)), sent(2, 24, bind("a", 1))})
	is(t, "on its way", b, "a", 5)
	b.Acked(2)
	is(t, "arrived", b, "a", 1)
	b = play(0, []call{learn(1, 20, bind("a", 5)), sent(2, 24, bind("a", 1)), pass(23)})
	is(t, "on its way", b, "a", 5)
	b.Pass(24)
	is(t, "run out", b, "a", 1)
}

// R1.

func TestLarge(t *testing.T) {
	const many = 2200000
	l := make([]api.Bind, many)
	for i := range l {
		l[i] = bind("a", 1000+i%2)
	}
	b := lease.New(0)
	b.Sent(1, 50, l)
	b.Pass(28)
	is(t, "many binds", b, "a", many*1000)
	for i := range l[:many/8] {
		l[i].Work = strconv.Itoa(i)
	}
	b.Learn(2, 50, l[:many/8])
	is(t, "many workloads", b, "270000", 1000)
	long := strings.Repeat("x", 1<<24)
	b.Learn(3, 50, []api.Bind{bind(long, 3), bind(long+"y", 4)})
	is(t, "a long name", b, long, 3)
	is(t, "a longer name", b, long+"y", 4)
	b.Learn(0, 0, nil)
	for i := range 200000 {
		b.Sent(i, i, []api.Bind{bind("a", i%1000)})
	}
	is(t, "many grants", b, "a", 999)
	b.Acked(199500)
	is(t, "many grants acked", b, "a", 999)
	b.Pass(200000)
	is(t, "many grants over", b, "a", 999)
	b.Pass(200003)
	is(t, "all grants over", b, "a", 0)
}

func TestExtremes(t *testing.T) {
	all := []int{math.MinInt, -1, 0, 1, math.MaxInt}
	for _, now := range all {
		for _, version := range all {
			for _, until := range all {
				for _, next := range all {
					calls := []call{sent(version, until), sent(next, now, bind("", version)), pass(next), acked(until), learn(next, version, bind("", until), bind("", now)), sent(until, next, bind("", version)), acked(now), pass(until)}
					for n := range calls {
						same(t, play(now, calls[:n+1]), history{now, calls[:n+1]}, "", "a")
					}
				}
			}
		}
	}
}

// R3.

// lent returns a text whose memory may be changed.
func lent(s string) (string, []byte) {
	memory := []byte(s)
	return unsafe.String(unsafe.SliceData(memory), len(memory)), memory
}

// TestArgumentsNotKept: what comes in may be changed afterwards, also its texts' memory.
func TestArgumentsNotKept(t *testing.T) {
	for _, kind := range []int{doLearn, doSent} {
		b := lease.New(0)
		b.Learn(0, 0, nil)
		work, memory := lent("abc")
		again, memoryAgain := lent("abc")
		other, memoryOther := lent("abd")
		l := []api.Bind{{Work: work, Node: "m", Count: 1}, {Work: other, Node: "m", Count: 4}, {Work: again, Node: "n", Count: 2}}
		perform(b, call{kind, 1, 50, l})
		for i := range l {
			l[i] = api.Bind{Work: "abc", Node: "o", Count: 100}
		}
		for _, m := range [][]byte{memory, memoryAgain, memoryOther} {
			copy(m, "zzz")
		}
		is(t, "changed", b, "abc", 3)
		is(t, "changed", b, "abd", 4)
		is(t, "changed", b, "zzz", 0)
		b.Sent(2, 50, []api.Bind{bind("abc", 1)})
		asked, memoryAsked := lent("xyz")
		is(t, "asked", b, asked, 0)
		copy(memoryAsked, "abc")
		is(t, "asked", b, "xyz", 0)
		is(t, "asked", b, "abc", 3)
	}
}

// TestArgumentsNotChanged: neither the binds nor what is behind their length.
func TestArgumentsNotChanged(t *testing.T) {
	whole := []api.Bind{{Work: "b", Node: "m", Count: -4}, {Work: "a", Node: "n", Count: 5000}, {Work: "b", Node: "m", Count: 3}, {Work: "spare", Node: "o", Count: 7}}
	before := slices.Clone(whole)
	b := lease.New(0)
	b.Learn(1, 50, whole[:3])
	b.Sent(2, 50, whole[:3])
	b.Sent(2, 50, whole[1:2])
	b.Acked(2)
	b.Pass(28)
	is(t, "held", b, "b", 3)
	is(t, "behind the length", b, "spare", 0)
	b.Pass(54)
	b.Sent(3, 50, nil)
	b.Learn(4, 50, whole[:0])
	if !slices.Equal(whole, before) {
		t.Errorf("changed: %+v", whole)
	}
}

// R4.

// TestBooksApart: books that were made alike, and given the same binds, don't touch each other.
func TestBooksApart(t *testing.T) {
	l := []api.Bind{bind("a", 2)}
	b, c := lease.New(0), lease.New(0)
	b.Learn(1, 50, l)
	is(t, "the other book", c, "a", -1)
	c.Learn(1, 50, l)
	b.Sent(2, 50, []api.Bind{bind("a", 9), bind("b", 1)})
	is(t, "the other book", c, "a", 2)
	is(t, "the other book", c, "b", 0)
	c.Acked(5)
	c.Pass(99)
	is(t, "this book", b, "a", 9)
	b.Pass(99)
	c.Sent(1, 200, l)
	is(t, "this book", b, "a", 0)
	is(t, "the other book", c, "a", 2)
}

// TestGrantsApart: grants that were given the same binds are removed one by one.
func TestGrantsApart(t *testing.T) {
	l := []api.Bind{bind("a", 2)}
	b := lease.New(0)
	b.Learn(1, 50, l)
	b.Sent(2, 60, l)
	b.Sent(3, 50, l)
	b.Acked(2)
	is(t, "acked", b, "a", 2)
	b.Pass(54)
	is(t, "passed", b, "a", 2)
	b.Acked(3)
	is(t, "all", b, "a", 0)
}

// TestAsked: Known and Held change nothing.
func TestAsked(t *testing.T) {
	calls := []call{sent(1, 30, bind("a", 1)), sent(2, 60, bind("a", 2), bind("b", 3)), acked(2), pass(28), sent(3, 70, bind("c", 1)), pass(64)}
	b := lease.New(0)
	for n, c := range calls {
		perform(b, c)
		for range 3 {
			same(t, b, history{0, calls[:n+1]}, "a", "b", "c", "d", "", "a")
		}
	}
}
