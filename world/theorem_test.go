package world_test

import (
	"fmt"
	"maps"
	"math/rand"
	"slices"
	"strings"
	"testing"

	"billet/api"
	"billet/msg"
	"billet/place"
	"billet/request"
	"billet/world"
)

// What follows from the promises, held against plain maps, sums and lists, without the packages that do it.

// plain is what is wanted, as plain maps.
type plain struct {
	works map[string]api.Work
	nodes map[string]api.Node
}

func (p plain) clone() plain { return plain{maps.Clone(p.works), maps.Clone(p.nodes)} }

// does is the error of a valid operation, which is performed if there is none.
func (p plain) does(o api.Op) api.Errno {
	w, workThere := p.works[o.ID]
	n, nodeThere := p.nodes[o.ID]
	_, workTwice := p.works[o.Work.ID]
	_, nodeTwice := p.nodes[o.Node.ID]
	switch o.Kind {
	case api.OpSubmit:
		if workTwice {
			return 121
		}
		if len(p.works) == 8 {
			return 123
		}
		p.works[o.Work.ID] = o.Work
	case api.OpAddNode:
		if nodeTwice {
			return 121
		}
		if len(p.nodes) == 8 {
			return 123
		}
		p.nodes[o.Node.ID] = o.Node
	case api.OpScale, api.OpDelete:
		if !workThere {
			return 122
		}
		w.Want = o.Want
		p.works[o.ID] = w
		if o.Kind == api.OpDelete {
			delete(p.works, o.ID)
		}
	default:
		if !nodeThere {
			return 122
		}
		n.Cordoned = o.Kind == api.OpCordon
		p.nodes[o.ID] = n
		if o.Kind == api.OpRemoveNode {
			delete(p.nodes, o.ID)
		}
	}
	return api.OK
}

// isIn reports whether a state has the same workloads and nodes.
func (p plain) isIn(s api.State) bool {
	for _, w := range s.Works {
		if p.works[w.ID] != w {
			return false
		}
	}
	for _, n := range s.Nodes {
		if p.nodes[n.ID] != n {
			return false
		}
	}
	ascend := slices.IsSortedFunc(s.Works, func(a, b api.Work) int { return strings.Compare(a.ID, b.ID) }) &&
		slices.IsSortedFunc(s.Nodes, func(a, b api.Node) int { return strings.Compare(a.ID, b.ID) })
	return ascend && len(s.Works) == len(p.works) && len(s.Nodes) == len(p.nodes)
}

// matches reports whether a selector matches labels.
func matches(selector, labels string) bool {
	has := "," + labels + ","
	for term := range strings.SplitSeq(selector, ",") {
		key, value, equals := strings.Cut(term, "=")
		positive := strings.Trim(key, "!")
		sought := "," + positive + "="
		if equals {
			sought += value + ","
		}
		if term != "" && strings.Contains(has, sought) == strings.Contains(key, "!") {
			return false
		}
	}
	return true
}

// allows reports whether what a cell runs fits what is wanted.
func (p plain) allows(number int, l []api.Bind) bool {
	onNode, of, twice := map[string]int{}, map[string]int{}, map[[2]string]bool{}
	for _, b := range l {
		w, wanted := p.works[b.Work]
		n, there := p.nodes[b.Node]
		onNode[b.Node] += b.Count
		of[b.Work] += b.Count
		if !wanted || !there || n.Cell != number || n.Cordoned || !matches(w.Selector, n.Labels) || b.Count < 1 || b.Count > w.PerNode || twice[[2]string{b.Work, b.Node}] ||
			onNode[b.Node] > n.Slots || of[b.Work] > min(w.Want, w.PerCell) {
			return false
		}
		twice[[2]string{b.Work, b.Node}] = true
	}
	return true
}

// isEven reports whether no single move within a cell makes the loads of what runs there more even.
func (p plain) isEven(l []api.Bind) bool {
	load, of := map[string]int{}, map[[2]string]int{}
	for _, b := range l {
		load[b.Node] += b.Count
		of[[2]string{b.Work, b.Node}] = b.Count
	}
	for _, b := range l {
		w := p.works[b.Work]
		for id, n := range p.nodes {
			if n.Cell == p.nodes[b.Node].Cell && !n.Cordoned && matches(w.Selector, n.Labels) &&
				of[[2]string{b.Work, id}] < w.PerNode && load[id] < n.Slots && load[b.Node]-load[id] >= 2 {
				return false
			}
		}
	}
	return true
}

// moment is what was wanted, and the last time at which it was.
type moment struct {
	wanted plain
	until  int
}

// history is a world, and what clients know of it.
type history struct {
	t      *testing.T
	random *rand.Rand
	w      *world.World
	events []api.Event
	wanted plain
	loose  []plain // with the operation that was interrupted, of which nobody knows; none or one
	epoch  int     // of the last placer
	past   []moment
	told   map[string]bool // what cells reported
	most   int             // replicas that ran together
	cuts   int             // how often an operation was interrupted
	redone int             // and how often all of it was there then
}

func newHistory(t *testing.T, seed int64) *history {
	t.Helper()
	return &history{
		t: t, random: rand.New(rand.NewSource(seed)), w: world.New(),
		wanted: plain{map[string]api.Work{}, map[string]api.Node{}}, told: map[string]bool{},
	}
}

// started is a history in which everybody is up, and something is wanted.
func started(t *testing.T, seed int64) *history {
	t.Helper()
	h := newHistory(t, seed)
	h.do(ev(api.EvStart, 0))
	for c := range 3 {
		h.do(ev(api.EvCellStart, c))
	}
	for i, id := range []string{"m", "n", "o", "p"} {
		h.operate(node(id, i%3, 2+h.random.Intn(3)))
	}
	for _, id := range []string{"a", "b", "c"} {
		h.operate(work(id, 1+h.random.Intn(8)))
	}
	for range 8 {
		h.operate(randomOp(h.random))
	}
	return h
}

func (h *history) fail(got, want any) {
	h.t.Helper()
	for _, e := range h.events[max(0, len(h.events)-60):] {
		h.t.Logf("%d: A %d, Skew %d, Keep %v, Text %q", e.What, e.A, e.Skew, e.Keep, e.Text)
	}
	h.t.Fatalf("at %d, behind %d events: %v; not %v", h.w.Time(), len(h.events), got, want)
}

func (h *history) isUp() bool {
	_, up := h.w.State()
	return up
}

// do lets an event happen that is no operation of a client, and looks at everything.
func (h *history) do(e api.Event) {
	h.t.Helper()
	h.events = append(h.events, e)
	answer := h.w.Do(e)
	switch e.What {
	case api.EvAsk:
		h.isRight(e.Text, answer)
	case api.EvStart:
		h.isBack()
	case api.EvReport, api.EvRound:
		h.note()
	}
	h.isModest()
}

// note keeps what cells have reported.
func (h *history) note() {
	for i := range h.w.Under() {
		if m, _ := h.w.Look(i); m.Kind == api.KindReport {
			s, _ := msg.Put(m)
			h.told[s] = true
		}
	}
}

// isRight tells if the answer to what is no operation is another one than P1 says.
func (h *history) isRight(asked, answer string) {
	h.t.Helper()
	if !h.isUp() {
		if answer != "" {
			h.fail(fmt.Sprintf("%q", answer), "nothing")
		}
		return
	}
	e, reports, ok := request.Read(answer)
	if asked != "\x12" {
		if answer != num(200) {
			h.fail(fmt.Sprintf("%q", answer), "no request")
		}
		return
	}
	if e != api.OK || !ok {
		h.fail(fmt.Sprintf("%q", answer), "reports")
	}
	for _, m := range reports {
		if s, _ := msg.Put(m); !h.told[s] {
			h.fail(m, "told")
		}
	}
}

// isBack tells if what is wanted behind a start is not what it was before.
func (h *history) isBack() {
	h.t.Helper()
	s, up := h.w.State()
	if !up || s.Epoch <= h.epoch {
		h.fail(fmt.Sprint(s, up), fmt.Sprint("up, behind epoch ", h.epoch))
	}
	h.epoch = s.Epoch
	for _, p := range h.loose {
		if p.isIn(s) {
			h.become(p)
			h.redone++
		}
	}
	h.loose = nil
	if !h.wanted.isIn(s) {
		h.fail(s, h.wanted)
	}
}

// become lets something else be wanted from now on.
func (h *history) become(p plain) {
	h.past = append(h.past, moment{h.wanted, h.w.Time()})
	h.wanted = p
}

// operate lets a client ask for an operation; the answer is that of plain maps, or that the power went off.
func (h *history) operate(o api.Op) {
	h.t.Helper()
	h.events = append(h.events, ask(o))
	up, next := h.isUp(), h.wanted.clone()
	e := next.does(o)
	answer := h.w.Do(ask(o))
	switch {
	case !up:
		if answer != "" {
			h.fail(fmt.Sprintf("%q", answer), "nothing")
		}
	case e == api.OK && answer == "\x00":
		h.become(next)
	case e == api.OK && answer == num(100) && !h.isUp():
		h.loose = []plain{next}
		h.cuts++
	case answer != num(int(e)):
		h.fail(fmt.Sprintf("%v is answered %q", o, answer), e)
	}
	if s, up := h.w.State(); up && !h.wanted.isIn(s) {
		h.fail(s, h.wanted)
	}
	h.isModest()
}

// lately is what was wanted in the last 24 ticks.
func (h *history) lately() []plain {
	h.past = slices.DeleteFunc(h.past, func(m moment) bool { return m.until < h.w.Time()-24 })
	l := []plain{h.wanted}
	for _, m := range h.past {
		l = append(l, m.wanted)
	}
	return l
}

// isModest tells if more runs, by any clocks, than was wanted lately.
func (h *history) isModest() {
	h.t.Helper()
	lately := h.lately()
	sum, total := map[string]int{}, 0
	for c := range 3 {
		most := map[string]int{}
		for skew := -2; skew <= 2; skew++ {
			l := h.w.Running(c, skew)
			if !slices.ContainsFunc(lately, func(p plain) bool { return p.allows(c, l) }) {
				h.fail(fmt.Sprint(c, " runs ", l), "what was wanted")
			}
			for _, b := range l {
				most[b.Work] = max(most[b.Work], count(l, b.Work))
			}
		}
		for id, n := range most {
			sum[id] += n
			total += n
		}
	}
	for id, n := range sum {
		if !slices.ContainsFunc(lately, func(p plain) bool { return n <= p.works[id].Want }) {
			h.fail(fmt.Sprint(n, " of ", id, " run"), "what was wanted")
		}
	}
	h.most = max(h.most, total)
}

func count(l []api.Bind, id string) int {
	sum := 0
	for _, b := range l {
		if b.Work == id {
			sum += b.Count
		}
	}
	return sum
}

// act lets anything happen.
func (h *history) act() {
	h.t.Helper()
	e := randomEvent(h.random, h.w.Under())
	if e.What == api.EvAsk && e.Text != "\x12" && h.random.Intn(10) > 0 {
		h.operate(randomOp(h.random))
		return
	}
	if e.What == api.EvAsk && e.Text != "\x12" {
		e.Text = "junk"
	}
	h.do(e)
	if !h.isUp() && h.random.Intn(6) == 0 {
		h.do(api.Event{What: api.EvStart, Skew: randomSkew(h.random), Keep: []int{h.random.Intn(60), h.random.Intn(60)}})
	}
}

// W3, P1, P2, P3: whatever happens, at any time, by any clocks, no more runs than was wanted in the last 24 ticks, it fits, and every answer is that of plain maps.
func TestSafety(t *testing.T) {
	t.Parallel()
	ran, cuts, redone := 0, 0, 0
	for seed := range int64(120) {
		h := started(t, seed)
		for range h.random.Intn(40) {
			h.do(skewed(api.EvRound, 0, randomSkew(h.random)))
		}
		for range 500 {
			h.act()
		}
		ran += h.most
		cuts += h.cuts
		redone += h.redone
	}
	if ran < 1000 || cuts < 50 || redone < 10 {
		t.Error(ran, cuts, redone)
	}
}

// W3: what is wanted changes much, while messages are late and the placer and the cells are started again and again.
func TestSafetyInTurmoil(t *testing.T) {
	t.Parallel()
	ran := 0
	for seed := range int64(60) {
		h := started(t, seed+2000)
		for range 60 {
			h.do(skewed(api.EvRound, 0, randomSkew(h.random)))
			for range h.random.Intn(4) {
				h.do(ev(api.EvCopy, h.random.Intn(9)))
				h.do(ev(api.EvDrop, h.random.Intn(9)))
			}
			switch h.random.Intn(8) {
			case 0:
				h.do(skewed(api.EvStart, 0, randomSkew(h.random)))
			case 1:
				h.do(ev(api.EvCellStart, h.random.Intn(3)))
			case 2:
				h.do(ev(api.EvTick, h.random.Intn(30)))
			case 3:
				h.operate(randomOp(h.random))
			default:
				id := []string{"a", "b", "c"}[h.random.Intn(3)]
				h.operate(scale(id, h.random.Intn(17)))
			}
			for range h.random.Intn(3) {
				h.do(skewed(api.EvPlacer, 0, randomSkew(h.random)))
				h.do(skewed(api.EvDeliver, h.random.Intn(6), randomSkew(h.random)))
			}
		}
		ran += h.most
	}
	if ran < 400 {
		t.Error(ran)
	}
}

// network is one that does harm: how many of 100 messages it loses, doubles and delays, and of those that let a cell run less; and until when each cell is cut off.
type network struct {
	loses, doubles, delays, keepsBack int
	cut                               [3]int
}

func newNetwork(random *rand.Rand) *network {
	return &network{loses: random.Intn(30), doubles: random.Intn(30), delays: random.Intn(70), keepsBack: random.Intn(2) * random.Intn(101)}
}

// far is a clock that deviates as far as it can.
func far(random *rand.Rand) int { return []int{-2, 2}[random.Intn(2)] }

// spite lets a tick go by, and the network do its harm.
func (h *history) spite(n *network) {
	h.t.Helper()
	h.do(ev(api.EvTick, []int{0, 1, 1, 1, 2}[h.random.Intn(5)]))
	for c := range 3 {
		if h.random.Intn(3) > 0 {
			h.do(ev(api.EvReport, c))
		}
		if h.random.Intn(90) == 0 {
			n.cut[c] = h.w.Time() + h.random.Intn(40)
		}
	}
	if h.random.Intn(3) > 0 {
		h.do(skewed(api.EvPlacer, 0, far(h.random)))
	}
	for i := h.w.Under() - 1; i >= 0; i-- {
		h.harm(n, i)
	}
	for h.w.Under() > 45 {
		h.do(ev(api.EvDrop, h.random.Intn(h.w.Under())))
	}
}

// harm is what the network does to a message.
func (h *history) harm(n *network, i int) {
	h.t.Helper()
	m, _ := h.w.Look(i)
	chance := h.random.Intn(100)
	less := m.Kind == api.KindGrant && m.Version > 0 && total(m.Binds) < total(h.w.Running(m.Cell, -2))
	switch {
	case n.cut[m.Cell] > h.w.Time() || less && chance < n.keepsBack || chance < n.loses:
		h.do(ev(api.EvDrop, i))
	case h.random.Intn(100) < n.delays:
	default:
		if h.random.Intn(100) < n.doubles {
			h.do(ev(api.EvCopy, i))
		}
		h.do(skewed(api.EvDeliver, i, far(h.random)))
	}
}

func total(l []api.Bind) int {
	sum := 0
	for _, b := range l {
		sum += b.Count
	}
	return sum
}

// whim lets something else be wanted, which makes replicas go from cell to cell.
func (h *history) whim() {
	h.t.Helper()
	id := []string{"m", "n", "o"}[h.random.Intn(3)]
	switch h.random.Intn(8) {
	case 0:
		h.operate(scale("a", []int{0, 1, 2, 4, 4, 4, 8}[h.random.Intn(7)]))
	case 1, 2, 3:
		h.operate(named(api.OpCordon, id))
	case 4, 5, 6:
		h.operate(named(api.OpUncordon, id))
	case 7:
		h.operate(scale("b", h.random.Intn(4)))
	}
}

// spiteful is a history of three cells in which a workload could go anywhere.
func spiteful(t *testing.T, seed int64) *history {
	t.Helper()
	h := newHistory(t, seed)
	h.do(ev(api.EvStart, 0))
	for c, id := range []string{"m", "n", "o"} {
		h.do(ev(api.EvCellStart, c))
		h.operate(node(id, c, 4))
	}
	h.operate(work("a", 4))
	h.operate(work("b", 1))
	for range 30 {
		h.do(ev(api.EvRound, 0))
	}
	return h
}

// W3: whatever the network makes of it, and however the clocks deviate.
func TestSafetyInSpite(t *testing.T) {
	t.Parallel()
	ran := 0
	for seed := range int64(60) {
		h := spiteful(t, seed+8000)
		n := newNetwork(h.random)
		whims, starts := 2+h.random.Intn(8), 6+h.random.Intn(2)*1000000+h.random.Intn(20)
		for range 150 {
			h.spite(n)
			if h.random.Intn(whims) == 0 {
				h.whim()
			}
			if h.random.Intn(starts) == 0 {
				h.do(skewed([]int{api.EvStart, api.EvCellStart}[h.random.Intn(2)], h.random.Intn(3), far(h.random)))
			}
			if h.random.Intn(40) == 0 {
				h.do(ev(api.EvTick, 10+h.random.Intn(20)))
			}
		}
		ran += h.most
	}
	if ran < 200 {
		t.Error(ran)
	}
}

// two is a history of two cells with a node each, the first one cordoned, and a workload that fills one of them.
func two(t *testing.T, want int) *history {
	t.Helper()
	h := newHistory(t, 1)
	h.do(ev(api.EvStart, 0))
	for c, id := range []string{"m", "n"} {
		h.do(ev(api.EvCellStart, c))
		h.operate(node(id, c, 4))
	}
	h.operate(work("a", want))
	if want <= 4 {
		h.operate(named(api.OpCordon, "m"))
	}
	for range 40 {
		h.do(ev(api.EvRound, 0))
	}
	h.lose(func(api.Message) bool { return true })
	return h
}

// lose drops some of the messages in transit.
func (h *history) lose(is func(m api.Message) bool) {
	h.t.Helper()
	for i := h.w.Under() - 1; i >= 0; i-- {
		if m, _ := h.w.Look(i); is(m) {
			h.do(ev(api.EvDrop, i))
		}
	}
}

// come delivers some of the messages in transit, by a clock of the placer that is so far from the time.
func (h *history) come(skew int, is func(m api.Message) bool) {
	h.t.Helper()
	for i := 0; i < h.w.Under(); {
		if m, _ := h.w.Look(i); is(m) {
			h.do(skewed(api.EvDeliver, i, skew))
		} else {
			i++
		}
	}
}

// hears lets a cell report, and the report come.
func (h *history) hears(number int) {
	h.t.Helper()
	h.do(ev(api.EvReport, number))
	h.do(ev(api.EvDeliver, h.w.Under()-1))
}

// runIn tells if other numbers of replicas run in the first two cells, by clocks that show least.
func (h *history) runIn(first, second int) {
	h.t.Helper()
	if a, b := total(h.w.Running(0, -2)), total(h.w.Running(1, -2)); a != first || b != second {
		h.fail(fmt.Sprint(a, b), fmt.Sprint(first, second))
	}
}

func isGrant(m api.Message) bool { return m.Kind == api.KindGrant }

// W3: what is wanted goes to and fro, and each cell hears only that it may run more: behind 24 ticks it runs no more for that.
func TestSeeSaw(t *testing.T) {
	h := two(t, 8)
	h.runIn(4, 4)
	h.operate(scale("a", 4))
	for tick := range 60 {
		h.do(ev(api.EvTick, 1))
		h.hears(0)
		h.hears(1)
		if tick%4 == 0 {
			out, in := "m", "n"
			if tick%8 == 0 {
				out, in = in, out
			}
			h.operate(named(api.OpCordon, out))
			h.operate(named(api.OpUncordon, in))
		}
		h.do(ev(api.EvPlacer, 0))
		h.lose(func(m api.Message) bool { return total(m.Binds) < total(h.w.Running(m.Cell, -2)) })
		h.come(0, func(m api.Message) bool { return true })
	}
	if a, b := total(h.w.Running(0, -2)), total(h.w.Running(1, -2)); a+b != 4 {
		h.fail(fmt.Sprint(a, b), 4)
	}
}

// W3: a cell that is cut off runs what an earlier placer granted it, whose clock was fast, while that of the new one is slow, and fast later on.
func TestEarlierPlacer(t *testing.T) {
	h := two(t, 4)
	h.do(ev(api.EvTick, 5))
	h.hears(1)
	h.do(skewed(api.EvPlacer, 0, 2))
	h.come(2, isGrant)
	h.do(skewed(api.EvStart, 0, -2))
	h.operate(named(api.OpUncordon, "m"))
	for tick := range 40 {
		h.do(skewed(api.EvPlacer, 0, 2))
		h.lose(func(m api.Message) bool { return m.Cell == 1 })
		h.come(2, isGrant)
		h.hears(0)
		switch {
		case tick < 24:
			h.runIn(0, 4)
		case tick == 24:
			// It may run elsewhere at the very tick at which it is over here.
			h.do(skewed(api.EvPlacer, 0, 2))
			h.come(2, isGrant)
			h.runIn(4, 0)
		default:
			h.runIn(4, 0)
		}
		h.do(ev(api.EvTick, 1))
	}
}

// W3: a report of an earlier boot comes late, while a grant is in transit to the one that is up.
func TestEarlierBoot(t *testing.T) {
	h := two(t, 4)
	h.do(ev(api.EvReport, 0))
	h.do(ev(api.EvCellStart, 0))
	for range 30 {
		// The report of the first boot is delayed.
		h.do(ev(api.EvTick, 1))
		h.do(ev(api.EvPlacer, 0))
		h.come(0, isGrant)
		h.hears(0)
		h.hears(1)
	}
	h.runIn(0, 4)
	h.do(ev(api.EvTick, 1))
	h.operate(named(api.OpUncordon, "m"))
	h.operate(named(api.OpCordon, "n"))
	h.do(ev(api.EvPlacer, 0))
	h.come(0, func(m api.Message) bool { return isGrant(m) && m.Cell == 1 })
	h.runIn(0, 0)
	h.hears(1)
	// Now cell 0 is granted everything, which does not come yet.
	h.do(ev(api.EvPlacer, 0))
	if m, _ := h.w.Look(h.w.Under() - 2); m.Cell != 0 || total(m.Binds) != 4 {
		h.fail(m, "4 for cell 0")
	}
	h.do(ev(api.EvDeliver, 0))
	h.hears(0)
	h.operate(named(api.OpUncordon, "n"))
	h.operate(named(api.OpCordon, "m"))
	for range 6 {
		h.do(ev(api.EvTick, 1))
		h.hears(1)
		h.do(ev(api.EvPlacer, 0))
		h.come(0, func(m api.Message) bool { return isGrant(m) && m.Cell == 1 })
		h.runIn(0, 0)
	}
	h.come(0, func(m api.Message) bool { return isGrant(m) && total(m.Binds) == 4 })
	h.runIn(4, 0)
}

// W3: a grant comes once more, when another one has been received and what it granted runs elsewhere.
func TestEarlierGrant(t *testing.T) {
	h := two(t, 4)
	h.operate(named(api.OpUncordon, "m"))
	h.operate(named(api.OpCordon, "n"))
	h.do(ev(api.EvTick, 4))
	h.do(ev(api.EvPlacer, 0))
	h.come(0, isGrant)
	h.hears(1)
	h.hears(0)
	h.do(ev(api.EvPlacer, 0))
	for i := range h.w.Under() {
		h.do(ev(api.EvCopy, i))
	}
	half := h.w.Under() / 2
	for range half {
		h.do(ev(api.EvDeliver, 0))
	}
	h.runIn(4, 0)
	h.operate(named(api.OpUncordon, "n"))
	h.operate(named(api.OpCordon, "m"))
	old := func(m api.Message) bool { return isGrant(m) && m.Cell == 0 && len(m.Binds) > 0 }
	others := func(m api.Message) bool { return isGrant(m) && !old(m) }
	for range 2 {
		h.do(ev(api.EvTick, 1))
		h.hears(0)
		h.hears(1)
		h.do(ev(api.EvPlacer, 0))
		h.come(0, others)
		h.hears(0)
	}
	h.do(ev(api.EvPlacer, 0))
	h.come(0, others)
	h.runIn(0, 4)
	h.come(0, old)
	h.runIn(0, 4)
}

// now is what the cells run, which is the same by all clocks.
func (h *history) now() [3][]api.Bind {
	h.t.Helper()
	var all [3][]api.Bind
	for c := range 3 {
		all[c] = h.w.Running(c, 0)
		for skew := -2; skew <= 2; skew++ {
			if got := h.w.Running(c, skew); !slices.Equal(got, all[c]) {
				h.fail(fmt.Sprint(got, " at ", skew), all[c])
			}
		}
	}
	return all
}

// best is how many replicas of each workload chapter 8 places on the nodes of the cells that are up.
func (h *history) best() map[string]int {
	s, _ := h.w.State()
	p := api.Problem{Works: s.Works}
	for _, n := range s.Nodes {
		if h.w.Alive(n.Cell) {
			p.Nodes = append(p.Nodes, n)
		}
	}
	l, e := place.Solve(p, nil)
	if e != api.OK {
		h.fail(e, api.OK)
	}
	best := map[string]int{}
	for _, b := range l {
		best[b.Work] += b.Count
	}
	return best
}

// settle lets 64 rounds go by, and tells if what runs then is not as much as can be, or not even.
func (h *history) settle() [3][]api.Bind {
	h.t.Helper()
	for range 64 {
		h.do(skewed(api.EvRound, 0, randomSkew(h.random)))
	}
	ran, sum := h.now(), map[string]int{}
	for c, l := range ran {
		if !h.wanted.allows(c, l) || !h.wanted.isEven(l) {
			h.fail(fmt.Sprint(c, " runs ", l), "what is wanted, evenly")
		}
		for _, b := range l {
			sum[b.Work] += b.Count
		}
	}
	if best := h.best(); !maps.Equal(sum, best) {
		h.fail(ran, best)
	}
	return ran
}

// stays tells if anything else runs in so many further rounds.
func (h *history) stays(ran [3][]api.Bind, many int) {
	h.t.Helper()
	for range many {
		h.do(skewed(api.EvRound, 0, randomSkew(h.random)))
		h.runs(ran)
	}
}

func (h *history) runs(want [3][]api.Bind) {
	h.t.Helper()
	for c, l := range h.now() {
		if !slices.Equal(l, want[c]) {
			h.fail(fmt.Sprint(c, " runs ", l), want[c])
		}
	}
}

// disorder lets anything happen for some time, at the end of which the placer is up.
func (h *history) disorder(many int) {
	h.t.Helper()
	for range many {
		h.act()
	}
	for c := range 3 {
		switch h.random.Intn(6) {
		case 0, 1, 2:
			if !h.w.Alive(c) {
				h.do(ev(api.EvCellStart, c))
			}
		case 3:
			h.do(ev(api.EvCellCrash, c))
		}
	}
	for range h.random.Intn(3) * 20 {
		h.do(ev(api.EvCopy, h.random.Intn(h.w.Under()+1)))
	}
	if !h.isUp() {
		h.do(skewed(api.EvStart, 0, randomSkew(h.random)))
	}
}

// W4, P4, P5: behind 64 rounds as much runs as can be, evenly, and it stays where it is.
func TestConvergence(t *testing.T) {
	t.Parallel()
	many := 0
	for seed := range int64(100) {
		h := started(t, seed+4000)
		h.disorder(h.random.Intn(150))
		ran := h.settle()
		h.stays(ran, 40)
		for _, l := range ran {
			many += len(l)
		}
		// Once more, from there.
		h.operate(randomOp(h.random))
		h.disorder(h.random.Intn(10))
		h.stays(h.settle(), 20)
	}
	if many < 400 {
		t.Error(many)
	}
}

// W4: from the first event on, whoever is up, and if nothing but rounds happens with any clocks.
func TestConvergenceAtOnce(t *testing.T) {
	t.Parallel()
	for up := range 8 {
		for seed := range int64(6) {
			h := newHistory(t, seed+int64(up)*100)
			h.do(ev(api.EvTick, h.random.Intn(100)))
			h.do(skewed(api.EvStart, 0, randomSkew(h.random)))
			for range 40 {
				h.operate(randomOp(h.random))
			}
			for c := range 3 {
				if up&(1<<c) > 0 {
					h.do(ev(api.EvCellStart, c))
				}
			}
			h.stays(h.settle(), 10)
		}
	}
}

// P5: what is placed stays where it is while messages are lost, late or doubled for some ticks, and if the placer is started again and hears all cells then.
func TestStability(t *testing.T) {
	t.Parallel()
	many, starts := 0, 0
	for seed := range int64(60) {
		h := started(t, seed+6000)
		h.disorder(h.random.Intn(100))
		ran := h.settle()
		for range 3 {
			h.losses(ran)
			h.stays(ran, 12)
		}
		if !h.w.Alive(0) || !h.w.Alive(1) || !h.w.Alive(2) {
			continue
		}
		for range 3 {
			h.do(skewed(api.EvStart, 0, randomSkew(h.random)))
			h.stays(ran, 1+h.random.Intn(50))
			starts++
		}
		for _, l := range ran {
			many += len(l)
		}
	}
	if many < 100 || starts < 50 {
		t.Error(many, starts)
	}
}

// P5: while the placer is started again, the cells go on with what they were granted, though it hears them one after the other; nothing is moved, even if reports to the earlier placer come late.
func TestHeardOneByOne(t *testing.T) {
	for apart := 1; apart <= 5; apart++ {
		h := newHistory(t, int64(apart))
		h.do(ev(api.EvStart, 0))
		for c, id := range []string{"m", "n", "o"} {
			h.do(ev(api.EvCellStart, c))
			h.operate(node(id, c, 4))
		}
		// All cells are full: what one of them has finds no room elsewhere while it is not heard.
		h.operate(work("a", 12))
		ran := h.settle()
		for starts := range 5 {
			late := h.w.Under()
			h.do(ev(api.EvStart, 0))
			for range 4 {
				h.do(ev(api.EvTick, 1))
				h.do(ev(api.EvPlacer, 0))
				h.come(0, func(m api.Message) bool { return isGrant(m) && m.Epoch == h.epoch })
				h.runs(ran)
			}
			for step := range 3 * apart {
				c := (step/apart + starts) % 3
				h.hears(c)
				h.do(ev(api.EvPlacer, 0))
				h.come(0, isGrant)
				if step%apart == 0 && late > 0 {
					h.do(ev(api.EvDeliver, 0))
					late--
				}
				h.do(ev(api.EvPlacer, 0))
				h.come(0, isGrant)
				h.do(ev(api.EvTick, step%2))
				h.runs(ran)
			}
			h.stays(ran, 20)
		}
	}
}

// losses lets some ticks go by in which messages are lost, late or doubled.
func (h *history) losses(ran [3][]api.Bind) {
	h.t.Helper()
	for range 1 + h.random.Intn(5) {
		h.do(ev(api.EvTick, 1))
		for range 8 {
			what := []int{api.EvDrop, api.EvDrop, api.EvCopy, api.EvDeliver}[h.random.Intn(4)]
			h.do(skewed(what, h.random.Intn(8), randomSkew(h.random)))
		}
		h.do(ev(api.EvReport, h.random.Intn(3)))
		h.do(skewed(api.EvPlacer, 0, randomSkew(h.random)))
		h.runs(ran)
	}
}

// W4: what was cordoned or taken away is left, and what was brought is used; the rest stays where it is.
func TestCordon(t *testing.T) {
	h := newHistory(t, 1)
	h.do(ev(api.EvStart, 0))
	for c := range 3 {
		h.do(ev(api.EvCellStart, c))
	}
	for i, id := range []string{"m", "n", "o"} {
		h.operate(node(id, i, 4))
	}
	h.operate(work("a", 10))
	for _, c := range []struct {
		o    api.Op
		want [3][]api.Bind
	}{
		{work("b", 0), [3][]api.Bind{{bind("a", "m", 4)}, {bind("a", "n", 4)}, {bind("a", "o", 2)}}},
		{named(api.OpCordon, "m"), [3][]api.Bind{nil, {bind("a", "n", 4)}, {bind("a", "o", 4)}}},
		{scale("a", 7), [3][]api.Bind{nil, {bind("a", "n", 4)}, {bind("a", "o", 3)}}},
		{named(api.OpUncordon, "m"), [3][]api.Bind{nil, {bind("a", "n", 4)}, {bind("a", "o", 3)}}},
		{named(api.OpRemoveNode, "n"), [3][]api.Bind{{bind("a", "m", 4)}, nil, {bind("a", "o", 3)}}},
		{node("p", 2, 4), [3][]api.Bind{{bind("a", "m", 4)}, nil, {bind("a", "o", 2), bind("a", "p", 1)}}},
		{named(api.OpDelete, "a"), [3][]api.Bind{}},
	} {
		h.operate(c.o)
		h.settle()
		h.runs(c.want)
		h.stays(c.want, 10)
	}
}
