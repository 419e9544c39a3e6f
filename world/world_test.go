package world_test

import (
	"encoding/binary"
	"fmt"
	"math"
	"math/rand"
	"reflect"
	"slices"
	"strings"
	"testing"
	"unsafe"

	"billet/api"
	"billet/cell"
	"billet/disk"
	"billet/intent"
	"billet/msg"
	"billet/placer"
	"billet/request"
	"billet/store"
	"billet/world"
)

// W1 to W4 are the chapter's promises; those of the document's rules are called rules.

// The chapter's words, anew.

// model is a world; what is down is not in it.
type model struct {
	time    int
	disk    *disk.Disk
	bag     []string
	placers []*placer.Placer // none or one
	cells   map[int]*cell.Cell
	starts  map[int]int
}

func newModel() *model {
	return &model{disk: disk.New(), cells: map[int]*cell.Cell{}, starts: map[int]int{}}
}

// within is a number that is limited to a range.
func within(n, low, high int) int {
	switch {
	case n < low:
		return low
	case n > high:
		return high
	}
	return n
}

func (m *model) do(e api.Event) string {
	answer := m.effect(e)
	if m.disk.Off() {
		m.placers = nil
	}
	return answer
}

// effect is the table of W1.
func (m *model) effect(e api.Event) string {
	exists := e.A == 0 || e.A == 1 || e.A == 2
	switch e.What {
	case api.EvTick:
		m.time += within(e.A, 0, 100)
	case api.EvPlacer:
		m.step(m.at(e.Skew))
	case api.EvReport:
		m.report(e.A)
	case api.EvDeliver:
		for _, s := range m.cut(e.A) {
			m.deliver(s, m.at(e.Skew))
		}
	case api.EvDrop:
		m.cut(e.A)
	case api.EvCopy:
		if 0 <= e.A && e.A < len(m.bag) {
			m.send(m.bag[e.A])
		}
	case api.EvCrash:
		m.placers = nil
	case api.EvStart:
		m.placers = nil
		m.disk.Restart(e.Keep)
		if s, errno := store.Open(m.disk); errno == api.OK {
			m.placers = []*placer.Placer{placer.New(s, m.at(e.Skew))}
		}
	case api.EvArm:
		m.disk.Arm(e.A)
	case api.EvCellCrash:
		delete(m.cells, e.A)
	case api.EvCellStart:
		if exists {
			m.starts[e.A]++
			m.cells[e.A] = cell.New(e.A, m.starts[e.A])
		}
	case api.EvAsk:
		for _, p := range m.placers {
			return request.Serve(p, e.Text)
		}
		return request.Serve(nil, e.Text)
	case api.EvRound:
		m.round(e.Skew)
	}
	return ""
}

func (m *model) round(skew int) {
	m.time++
	all := m.bag
	m.bag = nil
	for _, s := range all {
		m.deliver(s, m.at(skew))
	}
	m.report(0)
	m.report(1)
	m.report(2)
	m.step(m.at(skew))
}

// at is the reading of a clock.
func (m *model) at(skew int) int { return m.time + within(skew, -2, 2) }

// cut takes element i out of the bag, if there is one.
func (m *model) cut(i int) []string {
	if i < 0 || i >= len(m.bag) {
		return nil
	}
	s := m.bag[i]
	m.bag = append(append([]string{}, m.bag[:i]...), m.bag[i+1:]...)
	return []string{s}
}

// send is chapter 17's Send.
func (m *model) send(s string) {
	if len(m.bag) < 64 {
		m.bag = append(m.bag, s)
	}
}

func (m *model) step(now int) {
	for _, p := range m.placers {
		for _, g := range p.Step(now) {
			s, _ := msg.Put(g)
			m.send(s)
		}
	}
}

func (m *model) report(number int) {
	if c, up := m.cells[number]; up {
		s, _ := msg.Put(c.Report())
		m.send(s)
	}
}

func (m *model) deliver(s string, now int) {
	g, e := msg.Get(s)
	if e != api.OK {
		return
	}
	if g.Kind == api.KindGrant {
		if c, up := m.cells[g.Cell]; up {
			c.Receive(g)
		}
		return
	}
	for _, p := range m.placers {
		p.Receive(now, g)
	}
}

// running, state and look are W2.
func (m *model) running(number, skew int) []api.Bind {
	if c, up := m.cells[number]; up {
		return c.Running(m.at(skew))
	}
	return nil
}

func (m *model) state() (api.State, bool) {
	for _, p := range m.placers {
		return p.State(), true
	}
	return api.State{}, false
}

func (m *model) look(i int) (api.Message, bool) {
	if i < 0 || i >= len(m.bag) {
		return api.Message{}, false
	}
	g, _ := msg.Get(m.bag[i])
	return g, true
}

// same and sameState report whether two are equal; lists without elements are, nil or not.
func same(a, b api.Message) bool {
	binds := slices.Equal(a.Binds, b.Binds)
	a.Binds, b.Binds = nil, nil
	return binds && reflect.DeepEqual(a, b)
}

func sameState(a, b api.State) bool {
	return a.Epoch == b.Epoch && slices.Equal(a.Works, b.Works) && slices.Equal(a.Nodes, b.Nodes)
}

// pair is a world beside the chapter's words.
type pair struct {
	t    *testing.T
	w    *world.World
	m    *model
	past []api.Event
}

func newPair(t *testing.T) *pair {
	t.Helper()
	return &pair{t: t, w: world.New(), m: newModel()}
}

func (x *pair) fail(got, want any) {
	x.t.Helper()
	for _, e := range x.past[max(0, len(x.past)-60):] {
		x.t.Logf("%d: A %d, Skew %d, Keep %v, Text %q", e.What, e.A, e.Skew, e.Keep, e.Text)
	}
	x.t.Fatalf("behind %d events: %v; not %v", len(x.past), got, want)
}

// do lets an event happen in both.
func (x *pair) do(e api.Event) string {
	x.t.Helper()
	x.past = append(x.past, e)
	same := e
	same.Keep = slices.Clone(e.Keep)
	got, want := x.w.Do(e), x.m.do(same)
	if got != want {
		x.fail(fmt.Sprintf("%q", got), fmt.Sprintf("%q", want))
	}
	if x.w.Time() != x.m.time || x.w.Under() != len(x.m.bag) {
		x.fail(fmt.Sprint(x.w.Time(), x.w.Under()), fmt.Sprint(x.m.time, len(x.m.bag)))
	}
	return got
}

// isSo tells if the world is another one than the chapter says.
func (x *pair) isSo() {
	x.t.Helper()
	for c := -1; c <= 3; c++ {
		for _, skew := range []int{0, -1, 1, -2, 2, -3, 3} {
			if got, want := x.w.Running(c, skew), x.m.running(c, skew); !slices.Equal(got, want) {
				x.fail(fmt.Sprintf("%d runs %v at %d", c, got, skew), want)
			}
		}
		if _, up := x.m.cells[c]; x.w.Alive(c) != up {
			x.fail(fmt.Sprintf("%d is up: %v", c, !up), up)
		}
	}
	got, gotUp := x.w.State()
	if want, up := x.m.state(); gotUp != up || !sameState(got, want) {
		x.fail(fmt.Sprint(got, gotUp), fmt.Sprint(want, up))
	}
	for i := -1; i <= len(x.m.bag)+1; i++ {
		got, gotThere := x.w.Look(i)
		if want, there := x.m.look(i); gotThere != there || !same(got, want) {
			x.fail(fmt.Sprint("message ", i, got, gotThere), fmt.Sprint(want, there))
		}
	}
}

// asks lets a client ask for an operation.
func (x *pair) asks(o api.Op) string {
	x.t.Helper()
	return x.do(ask(o))
}

// also lets events happen one behind the other.
func (x *pair) also(l ...api.Event) *pair {
	x.t.Helper()
	for _, e := range l {
		x.do(e)
	}
	x.isSo()
	return x
}

// rounds lets fair rounds go by.
func (x *pair) rounds(many int) *pair {
	x.t.Helper()
	for range many {
		x.do(ev(api.EvRound, 0))
	}
	x.isSo()
	return x
}

// runs tells if a cell runs something else.
func (x *pair) runs(number, skew int, want ...api.Bind) {
	x.t.Helper()
	if got := x.w.Running(number, skew); !slices.Equal(got, want) {
		x.fail(fmt.Sprintf("%d runs %v at %d", number, got, x.w.Time()+skew), want)
	}
}

// carries tells if other messages are in transit.
func (x *pair) carries(want ...api.Message) {
	x.t.Helper()
	got := x.transit()
	if !slices.EqualFunc(got, want, same) {
		x.fail(got, want)
	}
}

// transit is the messages in transit.
func (x *pair) transit() []api.Message {
	var l []api.Message
	for i := range x.w.Under() {
		m, there := x.w.Look(i)
		if !there {
			x.fail(i, "there")
		}
		l = append(l, m)
	}
	if _, there := x.w.Look(len(l)); there {
		x.fail(len(l), "not there")
	}
	return l
}

// is tells if the time, or the number of messages in transit, is another one.
func (x *pair) is(time, under int) {
	x.t.Helper()
	if x.w.Time() != time || x.w.Under() != under {
		x.fail(fmt.Sprint(x.w.Time(), x.w.Under()), fmt.Sprint(time, under))
	}
}

// epoch is that of the placer, or -1 while it is down.
func (x *pair) epoch() int {
	s, up := x.w.State()
	if !up {
		return -1
	}
	return s.Epoch
}

func ev(what, a int) api.Event { return api.Event{What: what, A: a} }

func skewed(what, a, skew int) api.Event { return api.Event{What: what, A: a, Skew: skew} }

func ask(o api.Op) api.Event { return api.Event{What: api.EvAsk, Text: put(o)} }

func put(o api.Op) string {
	s, _ := intent.PutOp(o)
	return s
}

// num is chapter 1's Num.
func num(n int) string { return string(binary.AppendVarint(nil, int64(n))) }

func bind(work, node string, count int) api.Bind {
	return api.Bind{Work: work, Node: node, Count: count}
}

func node(id string, number, slots int) api.Op {
	return api.Op{Kind: api.OpAddNode, Node: api.Node{ID: id, Cell: number, Slots: slots}}
}

func work(id string, want int) api.Op {
	return api.Op{Kind: api.OpSubmit, Work: api.Work{ID: id, Want: want, PerNode: 4, PerCell: 16}}
}

func named(kind int, id string) api.Op { return api.Op{Kind: kind, ID: id} }

func scale(id string, want int) api.Op { return api.Op{Kind: api.OpScale, ID: id, Want: want} }

func report(number, boot, epoch, version, until int, l ...api.Bind) api.Message {
	return api.Message{Kind: api.KindReport, Cell: number, Boot: boot, Epoch: epoch, Version: version, Until: until, Binds: l}
}

func grant(number, boot, epoch, version, until int, l ...api.Bind) api.Message {
	return api.Message{Kind: api.KindGrant, Cell: number, Boot: boot, Epoch: epoch, Version: version, Until: until, Binds: l}
}

func greeting(number, epoch int) api.Message { return grant(number, 0, epoch, 0, 0) }

// begin is a world in which the placer is up, and these cells, and clients asked for something.
func begin(t *testing.T, cells int, ops ...api.Op) *pair {
	t.Helper()
	x := newPair(t).also(ev(api.EvStart, 0))
	for c := range cells {
		x.do(ev(api.EvCellStart, c))
	}
	for _, o := range ops {
		if got := x.asks(o); got != "\x00" {
			x.fail(fmt.Sprintf("%v is answered %q", o, got), "OK")
		}
	}
	x.isSo()
	return x
}

// strange are numbers far from those that count.
func strange() []int {
	return []int{math.MinInt, math.MinInt + 1, -1 << 40, -65, -4, -3, -2, -1, 0, 1, 2, 3, 4, 63, 64, 65, 99, 100, 101, 1 << 40, 1<<40 + 1, math.MaxInt - 1, math.MaxInt}
}

// The examples.

// W1, W2: the chapter's example.
func TestTheExample(t *testing.T) {
	x := newPair(t).also(ev(api.EvStart, 0), ev(api.EvCellStart, 0))
	if x.asks(node("n", 0, 2)) != "\x00" || x.asks(work("a", 3)) != "\x00" {
		t.Error("not OK")
	}
	x.rounds(64)
	x.is(64, 2+1+1) // greetings to the others, a report, and a lease that is given anew
	x.runs(0, 0, bind("a", "n", 2))
	x.also(ev(api.EvCrash, 0), ev(api.EvTick, 30))
	x.runs(0, 0)
	x.runs(0, -2)
	if !x.w.Alive(0) || x.w.Alive(1) {
		t.Error("Alive")
	}
}

// P3, P4: the document's example: two cells, one of which is lost, be it down, or only not heard any more.
func TestACellIsLost(t *testing.T) {
	for _, down := range []bool{true, false} {
		x := begin(t, 2, node("m", 0, 4), node("n", 1, 4), work("a", 5)).rounds(64)
		x.runs(0, 0, bind("a", "m", 4))
		x.runs(1, 0, bind("a", "n", 1))
		if down {
			x.also(ev(api.EvCellCrash, 0))
			x.runs(0, -2)
		}
		for tick := range 64 {
			if tick == 24 {
				x.runs(0, -2)
			}
			if down {
				x.rounds(1)
				continue
			}
			// Whatever comes from cell 0 or goes to it is lost.
			for i := x.w.Under() - 1; i >= 0; i-- {
				if m, _ := x.w.Look(i); m.Cell == 0 {
					x.do(ev(api.EvDrop, i))
				}
			}
			x.rounds(1)
		}
		x.runs(0, -2)
		x.runs(1, 0, bind("a", "n", 4))
		x.runs(1, 2, bind("a", "n", 4))
	}
}

// New and Do.

// W1: in the beginning there is nothing.
func TestNew(t *testing.T) {
	x := newPair(t)
	x.is(0, 0)
	x.isSo()
	if x.epoch() != -1 {
		t.Error(x.epoch())
	}
	for _, c := range strange() {
		if x.w.Alive(c) || len(x.w.Running(c, c)) != 0 {
			t.Errorf("cell %d is up", c)
		}
		if m, there := x.w.Look(c); there || !same(m, api.Message{}) {
			t.Errorf("message %d is there", c)
		}
	}
}

// W1: while nobody is up, nothing but the time changes.
func TestNobody(t *testing.T) {
	x := newPair(t)
	for i, e := range []api.Event{
		ev(api.EvPlacer, 0), ev(api.EvReport, 0), ev(api.EvReport, 2), ev(api.EvDeliver, 0), ev(api.EvDrop, 0), ev(api.EvCopy, 0), ev(api.EvCrash, 0),
		ev(api.EvArm, 1), ev(api.EvCellCrash, 1), {What: api.EvAsk, Text: "\x12"}, ask(work("a", 1)), {What: api.EvAsk}, {What: api.EvAsk, Text: "junk"},
	} {
		if got := x.do(e); got != "" {
			t.Errorf("event %d is answered %q", i, got)
		}
		x.is(0, 0)
		x.isSo()
	}
	x.rounds(3)
	x.is(3, 0)
	x.also(ev(api.EvTick, 5))
	x.is(8, 0)
	x.also(ev(api.EvStart, 0))
	if x.epoch() != 1 {
		t.Error(x.epoch())
	}
}

// W1: how many ticks go by.
func TestTick(t *testing.T) {
	x := newPair(t)
	time := 0
	for _, c := range []struct{ a, ticks int }{
		{0, 0}, {1, 1}, {2, 2}, {99, 99}, {100, 100}, {101, 100}, {1000, 100}, {1 << 40, 100}, {math.MaxInt, 100}, {-1, 0}, {-100, 0}, {math.MinInt, 0}, {7, 7},
	} {
		for _, skew := range []int{0, 2, -2, 9, math.MaxInt, math.MinInt} {
			if got := x.do(skewed(api.EvTick, c.a, skew)); got != "" {
				t.Errorf("%q", got)
			}
			time += c.ticks
			x.is(time, 0)
		}
	}
}

// W1: what is no event, and what happens to a cell or a message that does not exist, does nothing.
func TestNothing(t *testing.T) {
	x := begin(t, 3, node("m", 0, 4), node("n", 1, 2), work("a", 5)).rounds(40)
	before := x.transit()
	var nothing []api.Event
	for _, what := range append(strange(), 14, 15, 50, -13) {
		if what >= 1 && what <= 13 {
			continue
		}
		for _, a := range []int{0, 1, 2, -1, 100, math.MaxInt} {
			nothing = append(nothing, api.Event{What: what, A: a, Skew: 1, Keep: []int{1}, Text: put(work("b", 1))})
		}
	}
	for _, a := range strange() {
		if a < 0 || a > 2 {
			nothing = append(nothing, ev(api.EvReport, a), ev(api.EvCellCrash, a), ev(api.EvCellStart, a))
		}
		if a < 0 || a >= len(before) {
			nothing = append(nothing, ev(api.EvDeliver, a), ev(api.EvDrop, a), ev(api.EvCopy, a))
		}
	}
	for _, e := range nothing {
		if got := x.do(e); got != "" {
			x.fail(got, "nothing")
		}
		x.is(40, len(before))
		x.isSo()
		x.carries(before...)
	}
	x.runs(0, 0, bind("a", "m", 4))
	x.runs(1, 0, bind("a", "n", 1))
	x.rounds(9)
}

// W1: what the placer sends is in transit, in order.
func TestPlacer(t *testing.T) {
	x := begin(t, 1).also(ev(api.EvPlacer, 0))
	x.carries(greeting(0, 1), greeting(1, 1), greeting(2, 1))
	x.also(ev(api.EvDeliver, 0), ev(api.EvReport, 0))
	x.carries(greeting(1, 1), greeting(2, 1), report(0, 1, 1, 0, 0))
	x.also(ev(api.EvDeliver, 2), skewed(api.EvPlacer, 0, 1))
	x.carries(greeting(1, 1), greeting(2, 1), grant(0, 1, 1, 1, 21), greeting(1, 1), greeting(2, 1))
	x.also(ev(api.EvDeliver, 2), ev(api.EvReport, 0))
	x.carries(greeting(1, 1), greeting(2, 1), greeting(1, 1), greeting(2, 1), report(0, 1, 1, 1, 21))
	x.also(ev(api.EvCrash, 0), ev(api.EvPlacer, 0))
	x.is(0, 5)
}

// W1: the skew of EvPlacer, by the lease that is given, which ends 20 ticks behind the reading.
func TestPlacerReads(t *testing.T) {
	for _, skew := range strange() {
		x := begin(t, 3, node("m", 0, 4), work("a", 1)).rounds(40)
		x.asks(scale("a", 2))
		x.also(skewed(api.EvPlacer, 0, skew))
		messages := x.transit()
		if m := messages[len(messages)-1]; m.Cell != 0 || m.Until != 60+within(skew, -2, 2) || !slices.Equal(m.Binds, []api.Bind{bind("a", "m", 2)}) {
			t.Errorf("%d: %v", skew, m)
		}
	}
}

// W1: the skews of EvDeliver and EvPlacer, by how long a cell counts as up: 10 ticks from the reading at which it was heard.
func TestDeliverReads(t *testing.T) {
	for _, skew := range strange() {
		for ahead := range 15 {
			for _, later := range []int{-9, -2, -1, 0, 1, 2, 7} {
				x := begin(t, 1).also(ev(api.EvTick, 50), ev(api.EvPlacer, 0), ev(api.EvDeliver, 0), ev(api.EvReport, 0), skewed(api.EvDeliver, 2, skew), ev(api.EvTick, ahead))
				x.do(skewed(api.EvPlacer, 0, later))
				m, _ := x.w.Look(2)
				if up := ahead+within(later, -2, 2) <= within(skew, -2, 2)+10; up != (m.Version == 1) || m.Cell != 0 {
					t.Errorf("heard at %d, behind %d ticks at %d: %v", skew, ahead, later, m)
				}
			}
		}
	}
}

// W1: the skew of EvStart: what cells may be running that are silent is unknown until 28 ticks behind the reading.
func TestStartReads(t *testing.T) {
	for _, skew := range strange() {
		x := newPair(t).also(ev(api.EvTick, 100), skewed(api.EvStart, 0, skew), ev(api.EvCellStart, 0))
		x.asks(node("m", 0, 4))
		x.asks(work("a", 3))
		for tick := 1; tick < 40; tick++ {
			x.rounds(1)
			granted := slices.ContainsFunc(x.transit(), func(m api.Message) bool { return len(m.Binds) > 0 && m.Kind == api.KindGrant })
			if granted != (tick >= 28+within(skew, -2, 2)) {
				x.fail(fmt.Sprintf("started at %d, behind %d ticks granted: %v", skew, tick, granted), !granted)
			}
			if granted {
				break
			}
		}
	}
}

// W1: the skew of EvRound, which both the reports that come and the leases that are given have.
func TestRoundReads(t *testing.T) {
	for _, skew := range strange() {
		x := begin(t, 3, node("m", 0, 4), work("a", 1)).rounds(40)
		x.asks(scale("a", 2))
		x.also(skewed(api.EvRound, 0, skew))
		messages := x.transit()
		if m := messages[3]; m.Cell != 0 || m.Kind != api.KindGrant || m.Until != 61+within(skew, -2, 2) || !slices.Equal(m.Binds, []api.Bind{bind("a", "m", 2)}) {
			t.Errorf("%d: %v", skew, messages)
		}
		for ahead := range 14 {
			x := begin(t, 1).also(ev(api.EvPlacer, 0), ev(api.EvDeliver, 0), ev(api.EvReport, 0), skewed(api.EvRound, 0, skew), ev(api.EvTick, ahead))
			before := x.w.Under()
			x.do(ev(api.EvPlacer, 0))
			down := slices.ContainsFunc(x.transit()[before:], func(m api.Message) bool { return same(m, greeting(0, 1)) })
			if down != (ahead > 10+within(skew, -2, 2)) {
				t.Errorf("heard at %d: behind %d ticks down: %v", skew, ahead, down)
			}
		}
	}
}

// W1: the 65th message is lost, and so are those behind it.
func TestFullBag(t *testing.T) {
	for free := range 8 {
		x := begin(t, 3)
		for x.w.Under() < 64-free {
			x.do(ev(api.EvReport, x.w.Under()%3))
		}
		x.isSo()
		x.also(ev(api.EvPlacer, 0))
		x.is(0, min(64, 64-free+3))
		for i := range min(free, 3) {
			if m, _ := x.w.Look(64 - free + i); !same(m, greeting(i, 1)) {
				t.Errorf("room for %d: %v", free, m)
			}
		}
		x.also(ev(api.EvReport, 1), ev(api.EvReport, 1), ev(api.EvCopy, 0), ev(api.EvCopy, 1), ev(api.EvReport, 0), ev(api.EvCopy, 63))
		x.is(0, 64)
		x.also(ev(api.EvDrop, 5), ev(api.EvCopy, 7))
		x.is(0, 64)
		// Each message has come when the others are sent: there is room for all.
		x.also(ev(api.EvRound, 0))
		x.is(1, 6)
	}
}

// W1: a message comes to whom it is for, and to nobody else, and it comes once.
func TestDeliver(t *testing.T) {
	x := begin(t, 3).also(ev(api.EvPlacer, 0), ev(api.EvDeliver, 1), ev(api.EvReport, 0), ev(api.EvReport, 1), ev(api.EvReport, 2))
	x.carries(greeting(0, 1), greeting(2, 1), report(0, 1, 0, 0, 0), report(1, 1, 1, 0, 0), report(2, 1, 0, 0, 0))
	x.also(ev(api.EvCellCrash, 2), ev(api.EvDeliver, 1), ev(api.EvCellStart, 2), ev(api.EvReport, 2))
	x.carries(greeting(0, 1), report(0, 1, 0, 0, 0), report(1, 1, 1, 0, 0), report(2, 1, 0, 0, 0), report(2, 2, 0, 0, 0))
	// The one report that comes while the placer is up is seen.
	x.also(ev(api.EvDeliver, 2), ev(api.EvDeliver, 0))
	x.carries(report(0, 1, 0, 0, 0), report(2, 1, 0, 0, 0), report(2, 2, 0, 0, 0))
	x.seen(report(1, 1, 1, 0, 0))
	x.also(ev(api.EvCrash, 0), ev(api.EvDeliver, 1), ev(api.EvStart, 0))
	x.carries(report(0, 1, 0, 0, 0), report(2, 2, 0, 0, 0))
	x.seen()
	x.also(ev(api.EvDeliver, 1), ev(api.EvDeliver, 1), ev(api.EvDeliver, 0), ev(api.EvDeliver, 0))
	x.carries()
	x.seen(report(0, 1, 0, 0, 0), report(2, 2, 0, 0, 0))
}

// seen tells if the placer has seen other reports.
func (x *pair) seen(want ...api.Message) {
	x.t.Helper()
	answer := x.do(api.Event{What: api.EvAsk, Text: "\x12"})
	if e, got, ok := request.Read(answer); e != api.OK || !ok || !slices.EqualFunc(got, want, same) {
		x.fail(fmt.Sprint(e, got, ok), want)
	}
}

// W1: the bag's Drop and Copy.
func TestDropAndCopy(t *testing.T) {
	x := begin(t, 3).also(ev(api.EvReport, 0), ev(api.EvReport, 1), ev(api.EvReport, 2), ev(api.EvDrop, 1))
	zero, two := report(0, 1, 0, 0, 0), report(2, 1, 0, 0, 0)
	x.carries(zero, two)
	x.also(ev(api.EvCopy, 0), ev(api.EvCopy, 1))
	x.carries(zero, two, zero, two)
	x.also(ev(api.EvDrop, 0), ev(api.EvDrop, 2), ev(api.EvDrop, 2), ev(api.EvCopy, 2))
	x.carries(two, zero)
	x.also(ev(api.EvDrop, 0), ev(api.EvDrop, 0), ev(api.EvDrop, 0))
	x.carries()
	x.seen()
}

// W1: a placer that is down is silent and deaf, and what was wanted outlasts it.
func TestCrash(t *testing.T) {
	x := begin(t, 1, node("m", 0, 4), work("a", 2)).also(ev(api.EvPlacer, 0), ev(api.EvCrash, 0))
	if x.epoch() != -1 || !x.w.Alive(0) {
		t.Error(x.epoch())
	}
	x.is(0, 3)
	for _, e := range []api.Event{ev(api.EvPlacer, 0), ev(api.EvCrash, 0), ask(work("b", 1)), {What: api.EvAsk, Text: "\x12"}, {What: api.EvAsk, Text: "junk"}, {What: api.EvAsk}} {
		if got := x.do(e); got != "" {
			t.Errorf("%q", got)
		}
		x.is(0, 3)
	}
	x.also(ev(api.EvRound, 0))
	x.carries(report(0, 1, 1, 0, 0))
	x.also(ev(api.EvStart, 0))
	if s, up := x.w.State(); !up || s.Epoch != 2 || len(s.Works) != 1 || s.Works[0] != work("a", 2).Work || len(s.Nodes) != 1 || s.Nodes[0] != node("m", 0, 4).Node {
		t.Error(s, up)
	}
	x.rounds(40)
	x.runs(0, 0, bind("a", "m", 2))
}

// W1: a start of a placer that is up: it is another one, with a greater epoch, and nothing else changes.
func TestStart(t *testing.T) {
	x := begin(t, 2, node("m", 0, 4), node("n", 1, 4), work("a", 6)).rounds(40)
	before := x.transit()
	for epoch := 2; epoch < 30; epoch++ {
		x.also(ev(api.EvStart, 7))
		if x.epoch() != epoch {
			t.Fatal(x.epoch(), epoch)
		}
		x.is(40, len(before))
		x.carries(before...)
		x.seen()
		x.runs(0, 0, bind("a", "m", 4))
		x.runs(1, 0, bind("a", "n", 2))
	}
	x.rounds(64)
	x.runs(0, 0, bind("a", "m", 4))
}

// cut is a world whose power goes off at an action, in which clients ask until then; it also tells what they got an answer OK for, and what they asked at last.
func cut(t *testing.T, at int) (*pair, int, bool) {
	t.Helper()
	x := begin(t, 1).also(ev(api.EvArm, at))
	many := 0
	for i := range 40 {
		before := many
		answer := x.asks(work(string(rune('a'+i%8)), 1+i/8))
		if i >= 8 {
			answer = x.answers(answer, i)
		}
		if answer == "\x00" {
			many++
		} else if answer != num(100) {
			x.fail(fmt.Sprintf("%q", answer), "OK or that the power is off")
		}
		if x.epoch() < 0 {
			return x, many, many == before
		}
	}
	x.fail("always on", "off")
	return nil, 0, false
}

// answers is the answer to the 9th operation and further ones, which scale workloads that are there.
func (x *pair) answers(twice string, i int) string {
	x.t.Helper()
	if twice != num(121) {
		x.fail(fmt.Sprintf("%q", twice), "that it is there")
	}
	return x.asks(scale(string(rune('a'+i%8)), 1+i/8))
}

// wants reports whether the first so many operations of cut lead to a state.
func wants(s api.State, many int) bool {
	var works []api.Work
	for i := range many {
		if i < 8 {
			works = append(works, work(string(rune('a'+i)), 1).Work)
		} else {
			works[i%8].Want = 1 + i/8
		}
	}
	return slices.Equal(s.Works, works) && len(s.Nodes) == 0
}

// W1, W3, P2: wherever the power goes off, the placer is down at once; what is wanted behind the next start is what was answered OK, with nothing or all of what was interrupted.
func TestPower(t *testing.T) {
	all, none := 0, 0
	for at := 1; at <= 40; at++ {
		keeps := [][]int{nil, {-1}, {-6, -7, -8}, {1 << 40, 1 << 40}, {math.MaxInt, math.MinInt, math.MaxInt}, {math.MinInt}, {0, 4, 7, 3}, {20, 200, 2000}}
		for n := range 20 {
			keeps = append(keeps, []int{n, n + 1, n})
		}
		for _, keep := range keeps {
			x, many, interrupted := cut(t, at)
			if x.do(ask(work("z", 1))) != "" || x.do(api.Event{What: api.EvAsk, Text: "\x12"}) != "" {
				t.Error("answered")
			}
			x.also(ev(api.EvPlacer, 0), ev(api.EvReport, 0), ev(api.EvArm, 1), ev(api.EvTick, 1))
			if at%4 < 2 {
				x.also(ev(api.EvCrash, 0))
			}
			x.is(1, 1)
			x.also(api.Event{What: api.EvStart, Keep: keep})
			s, up := x.w.State()
			if !up || s.Epoch != 2 {
				x.fail(fmt.Sprint(s, up), "up, for the second time")
			}
			switch {
			case wants(s, many):
				none++
			case interrupted && wants(s, many+1):
				all++
			default:
				x.fail(s, fmt.Sprint(many, " operations, interrupted: ", interrupted))
			}
			x.rounds(2)
		}
	}
	if all < 12 || none < 400 {
		t.Error(all, none)
	}
}

// W1: EvArm is the disk's Arm: 0 disarms, wrong numbers leave it as it was, and a start disarms.
func TestArm(t *testing.T) {
	for _, c := range []struct {
		arms []int
		acts int // of them there are two for each operation
	}{
		{[]int{1}, 1}, {[]int{2}, 2}, {[]int{3}, 3}, {[]int{5}, 5}, {[]int{5, 3}, 3}, {[]int{3, 5}, 5},
		{[]int{3, 0}, 0}, {[]int{0}, 0}, {[]int{-1}, 0}, {[]int{3, -1}, 3}, {[]int{3, 1<<40 + 1}, 3}, {[]int{3, math.MaxInt, math.MinInt}, 3}, {[]int{3, 1 << 40}, 0}, {[]int{1 << 40}, 0},
	} {
		x := begin(t, 0)
		for _, n := range c.arms {
			if got := x.do(ev(api.EvArm, n)); got != "" || x.epoch() != 1 {
				t.Errorf("%q", got)
			}
		}
		for i := 1; i <= 3; i++ {
			want := "\x00"
			if c.acts > 0 && c.acts <= 2*i {
				want = num(100)
			}
			if c.acts > 0 && c.acts <= 2*i-2 {
				want = ""
			}
			if got := x.asks(work(string(rune('a'+i)), 1)); got != want {
				t.Errorf("%v: operation %d is answered %q; not %q", c.arms, i, got, want)
			}
		}
		x.also(ev(api.EvArm, 1), ev(api.EvStart, 0))
		if got := x.asks(work("z", 1)); got != "\x00" || x.epoch() != 2 {
			t.Errorf("%q", got)
		}
	}
}

// W1: a cell that is started again is a new one, whose boot is one more, whether it was up or not; the others stay.
func TestCellStart(t *testing.T) {
	for c := range 3 {
		x := begin(t, 0, node("m", 0, 1), node("n", 1, 1), node("o", 2, 1), work("a", 3))
		x.also(ev(api.EvCellStart, (c+1)%3), ev(api.EvCellStart, (c+2)%3))
		for boot := 1; boot < 6; boot++ {
			x.also(ev(api.EvCellStart, c), ev(api.EvReport, c))
			x.carriesLast(report(c, boot, 0, 0, 0))
			x.rounds(40)
			x.runs(c, 0, bind("a", string(rune('m'+c)), 1))
			x.runs((c+1)%3, 0, bind("a", string(rune('m'+(c+1)%3)), 1))
			if boot%2 == 0 {
				x.also(ev(api.EvCellCrash, c))
				if x.w.Alive(c) || !x.w.Alive((c+1)%3) || !x.w.Alive((c+2)%3) {
					t.Error("Alive")
				}
			} else {
				// At once there is nothing of before.
				x.also(ev(api.EvCellStart, c))
				x.also(ev(api.EvCellCrash, c), ev(api.EvCellStart, c))
				boot += 2
			}
			x.runs(c, -2)
			x.also(ev(api.EvReport, (c+1)%3))
			if m := x.transit()[x.w.Under()-1]; m.Cell != (c+1)%3 || m.Boot != 1 || len(m.Binds) != 1 {
				t.Error(m)
			}
		}
	}
}

// carriesLast tells if the last message in transit is another one.
func (x *pair) carriesLast(want api.Message) {
	x.t.Helper()
	if got, _ := x.w.Look(x.w.Under() - 1); !same(got, want) {
		x.fail(got, want)
	}
}

// W1: a cell that is down reports nothing, runs nothing, and receives nothing; nor does a start bring anything back.
func TestCellCrash(t *testing.T) {
	x := begin(t, 1, node("m", 0, 4), work("a", 2)).rounds(40)
	x.runs(0, 0, bind("a", "m", 2))
	x.also(ev(api.EvDrop, 0))
	for x.w.Under() > 0 {
		x.also(ev(api.EvDrop, 0))
	}
	x.also(ev(api.EvTick, 4), ev(api.EvPlacer, 0))
	if m, _ := x.w.Look(0); m.Kind != api.KindGrant || m.Boot != 1 || len(m.Binds) != 1 {
		t.Error(m)
	}
	under := x.w.Under()
	x.also(ev(api.EvCellCrash, 0), ev(api.EvCellCrash, 0), ev(api.EvReport, 0))
	x.is(44, under)
	x.also(ev(api.EvCopy, 0), ev(api.EvDeliver, 0), ev(api.EvCellStart, 0))
	x.is(44, under)
	x.runs(0, -2)
	// The lease was for the cell before.
	x.also(ev(api.EvDeliver, under-1))
	x.runs(0, -2)
	x.also(ev(api.EvReport, 0))
	x.carriesLast(report(0, 2, 0, 0, 0))
}

// W1: what clients are answered.
func TestAsk(t *testing.T) {
	x := begin(t, 1)
	for _, c := range []struct {
		asked  string
		answer string
	}{
		{put(work("a", 1)), "\x00"}, {put(work("a", 1)), num(121)}, {put(scale("b", 1)), num(122)}, {put(named(api.OpDelete, "a")), "\x00"},
		{put(named(api.OpCordon, "a")), num(122)}, {put(node("a", 0, 1)), "\x00"}, {put(node("a", 1, 1)), num(121)}, {put(named(api.OpCordon, "a")), "\x00"},
		{"", num(200)}, {"junk", num(200)}, {"\x12", "\x00"}, {"\x10", num(200)}, {"\x12\x00", num(200)}, {put(work("a", 1)) + "\x00", num(200)},
	} {
		for _, a := range []int{0, 5, -1} {
			if got := x.do(api.Event{What: api.EvAsk, A: a, Skew: a, Keep: []int{a}, Text: c.asked}); got != c.answer {
				t.Errorf("%q is answered %q; not %q", c.asked, got, c.answer)
			}
			x.is(0, 0)
			x.isSo()
			if c.answer == "\x00" && c.asked != "\x12" {
				break
			}
		}
	}
	if s, up := x.w.State(); !up || len(s.Works) != 0 || len(s.Nodes) != 1 || !s.Nodes[0].Cordoned {
		t.Error(s)
	}
}

// W1: texts have answers at EvAsk alone.
func TestNoAnswer(t *testing.T) {
	x := begin(t, 2)
	for what := -3; what < 20; what++ {
		if what != api.EvAsk {
			if got := x.do(api.Event{What: what, Text: "\x12"}); got != "" {
				t.Errorf("%d is answered %q", what, got)
			}
			x.isSo()
		}
	}
}

// W1: in a round everything comes; then the cells that are up report, in order, then the placer steps, if it is up.
func TestRound(t *testing.T) {
	for up := range 16 {
		x := newPair(t)
		var want []api.Message
		for c := 2; c >= 0; c-- {
			if up&(1<<c) > 0 {
				x.do(ev(api.EvCellStart, c))
				want = append([]api.Message{report(c, 1, 0, 0, 0)}, want...)
			}
		}
		if up&8 > 0 {
			x.do(ev(api.EvStart, 0))
			want = append(want, greeting(0, 1), greeting(1, 1), greeting(2, 1))
		}
		x.also(ev(api.EvRound, 0))
		x.carries(want...)
		x.is(1, len(want))
		x.also(ev(api.EvRound, 0))
		for i := range want {
			if want[i].Kind == api.KindReport && up&8 > 0 {
				want[i].Epoch = 1
			}
		}
		x.carries(want...)
		x.is(2, len(want))
		x.also(ev(api.EvRound, 0))
		// Now the placer has heard them.
		m, there := x.w.Look(len(want) - 3)
		if wanted := up&8 > 0; there && wanted && (up&1 > 0) != (m.Kind == api.KindGrant && m.Version == 1) {
			t.Errorf("%d: %v", up, m)
		}
		for range 5 {
			x.also(skewed(api.EvRound, 9, 1))
		}
		x.is(8, x.w.Under())
	}
}

// W1: the messages of a round come in order: which of two reports comes first decides if the cell follows.
func TestRoundInOrder(t *testing.T) {
	for _, swapped := range []bool{false, true} {
		x := begin(t, 1).also(ev(api.EvPlacer, 0), ev(api.EvDeliver, 0), ev(api.EvDrop, 0), ev(api.EvDrop, 0), ev(api.EvReport, 0), ev(api.EvCellStart, 0), ev(api.EvReport, 0))
		x.carries(report(0, 1, 1, 0, 0), report(0, 2, 0, 0, 0))
		if swapped {
			x.also(ev(api.EvCopy, 0), ev(api.EvDrop, 0))
		}
		x.also(ev(api.EvRound, 0))
		first := greeting(0, 1)
		if swapped {
			first = grant(0, 1, 1, 1, 21)
		}
		x.carries(report(0, 2, 0, 0, 0), first, greeting(1, 1), greeting(2, 1))
	}
}

// W1: what is sent in a round comes in the next one, not in the same.
func TestRoundsApart(t *testing.T) {
	x := begin(t, 1)
	for _, want := range [][]api.Message{
		{report(0, 1, 0, 0, 0), greeting(0, 1), greeting(1, 1), greeting(2, 1)},
		{report(0, 1, 1, 0, 0), greeting(0, 1), greeting(1, 1), greeting(2, 1)},
		{report(0, 1, 1, 0, 0), grant(0, 1, 1, 1, 23), greeting(1, 1), greeting(2, 1)},
		{report(0, 1, 1, 1, 23), greeting(1, 1), greeting(2, 1)},
		{report(0, 1, 1, 1, 23), greeting(1, 1), greeting(2, 1)},
		{report(0, 1, 1, 1, 23), greeting(1, 1), greeting(2, 1)},
		{report(0, 1, 1, 1, 23), grant(0, 1, 1, 2, 27), greeting(1, 1), greeting(2, 1)},
	} {
		x.also(ev(api.EvRound, 0))
		x.carries(want...)
	}
}

// Running, State, Time, Under, Alive and Look.

// W2: a cell runs what it was granted as long as the lease holds at the reading.
func TestRunning(t *testing.T) {
	x := begin(t, 2, node("m", 0, 4), work("a", 3)).rounds(40).also(ev(api.EvReport, 0))
	until := x.transit()[x.w.Under()-1].Until
	want := []api.Bind{bind("a", "m", 3)}
	for time := 40; time < 70; time++ {
		for _, skew := range strange() {
			if runs := time+within(skew, -2, 2) < until; runs {
				x.runs(0, skew, want...)
			} else {
				x.runs(0, skew)
			}
			x.runs(1, skew)
			x.runs(2, skew)
			x.runs(3, skew)
			x.runs(-1, skew)
		}
		x.also(ev(api.EvTick, 1))
	}
	for _, c := range strange() {
		if c < 0 || c > 1 {
			x.runs(c, 0)
			if x.w.Alive(c) {
				t.Errorf("%d is up", c)
			}
		}
	}
}

// W2: Look tells each message in transit, whatever it is for, and no other one.
func TestLook(t *testing.T) {
	x := begin(t, 2, node("m", 0, 4), node("n", 1, 2), work("a", 5)).rounds(40)
	x.asks(scale("a", 6))
	x.also(ev(api.EvPlacer, 0))
	last := x.w.Under() - 1
	if m, there := x.w.Look(last - 1); !there || !same(m, grant(1, 1, 1, m.Version, 60, bind("a", "n", 2))) {
		t.Error(m, there)
	}
	for _, i := range strange() {
		m, there := x.w.Look(i)
		if there != (i >= 0 && i <= last) || !there && !same(m, api.Message{}) {
			t.Errorf("%d: %v, %v", i, m, there)
		}
	}
	x.also(ev(api.EvCrash, 0), ev(api.EvCellCrash, 0), ev(api.EvCellCrash, 1))
	if len(x.transit()) != last+1 {
		t.Error("lost")
	}
}

// All short lists, and random ones.

// letters are events that matter for each other.
func letters() []api.Event {
	return []api.Event{
		ev(api.EvRound, 0), skewed(api.EvPlacer, 0, 2), ev(api.EvReport, 0), skewed(api.EvDeliver, 0, -2), ev(api.EvDeliver, 3), ev(api.EvDrop, 1), ev(api.EvCopy, 0),
		ev(api.EvCrash, 0), {What: api.EvStart, Keep: []int{3, 1}}, ev(api.EvCellCrash, 0), ev(api.EvCellStart, 0), ev(api.EvTick, 11), ev(api.EvArm, 2), ask(scale("a", 1)), {What: api.EvAsk, Text: "\x12"},
	}
}

// lists calls do with all lists of so many of the numbers below n.
func lists(n, long int, do func(list []int)) {
	list := make([]int, long)
	for {
		do(list)
		i := 0
		for i < long && list[i] == n-1 {
			list[i] = 0
			i++
		}
		if i == long {
			return
		}
		list[i]++
	}
}

// W1, W2: all lists of three events, in a world where a cell runs something, and where nobody is up.
func TestAllShortLists(t *testing.T) {
	t.Parallel()
	events := letters()
	lists(len(events), 3, func(list []int) {
		x := begin(t, 1, node("m", 0, 4), work("a", 3))
		x.do(ev(api.EvRound, 0))
		x.do(ev(api.EvRound, 0))
		y := newPair(t)
		for _, i := range list {
			x.do(events[i])
			y.do(events[i])
		}
		x.isSo()
		y.isSo()
	})
}

// randomOp is an operation on few workloads and nodes; most of them can be.
func randomOp(random *rand.Rand) api.Op {
	id := []string{"a", "b", "c", "d", "web"}[random.Intn(5)]
	place := random.Intn(7)
	machine := []string{"m", "n", "o", "p", "q", "r", "s"}[place]
	selector := []string{"", "", "", "disk", "!gpu", "zone=a", "disk!=ssd"}[random.Intn(7)]
	labels := []string{"", "disk=ssd", "disk=ssd,zone=a", "gpu=1", "disk=hdd"}[random.Intn(5)]
	switch random.Intn(12) {
	case 0, 1, 2, 3:
		return api.Op{Kind: api.OpSubmit, Work: api.Work{ID: id, Want: random.Intn(10), Prio: random.Intn(3), PerNode: 1 + random.Intn(4), PerCell: 1 + random.Intn(9), Selector: selector}}
	case 4:
		return scale(id, random.Intn(11))
	case 5:
		return named(api.OpDelete, id)
	case 6, 7, 8:
		return api.Op{Kind: api.OpAddNode, Node: api.Node{ID: machine, Cell: place % 3, Slots: random.Intn(5), Labels: labels, Cordoned: random.Intn(8) == 0}}
	case 9:
		return named(5+random.Intn(2), machine)
	case 10:
		return named(api.OpUncordon, machine)
	}
	return api.Op{Kind: 1 + random.Intn(7), ID: id, Want: random.Intn(17), Work: work(id, 3).Work, Node: node(machine, 2-place%3, 3).Node}
}

// randomSkew is mostly one that clocks may have.
func randomSkew(random *rand.Rand) int {
	if random.Intn(10) == 0 {
		return strange()[random.Intn(len(strange()))]
	}
	return random.Intn(5) - 2
}

// randomEvent is anything that may happen; under is how many messages are in transit.
func randomEvent(random *rand.Rand, under int) api.Event {
	e := api.Event{Skew: randomSkew(random), A: random.Intn(3)}
	if random.Intn(60) == 0 {
		e.A = strange()[random.Intn(len(strange()))]
	}
	switch n := random.Intn(100); {
	case n < 12:
		e.What, e.A = api.EvTick, 1+random.Intn(2)
		if random.Intn(60) == 0 {
			e.A = strange()[random.Intn(len(strange()))]
		}
	case n < 22:
		e.What = api.EvPlacer
	case n < 40:
		e.What = api.EvReport
	case n < 78:
		e.What = []int{api.EvDeliver, api.EvDeliver, api.EvDeliver, api.EvDeliver, api.EvDeliver, api.EvDrop, api.EvCopy}[random.Intn(7)]
		e.A = 0
		if random.Intn(2) == 0 {
			e.A = random.Intn(under+2) - random.Intn(2)
		}
	case n < 80:
		e.What = api.EvCrash
	case n < 84:
		e.What = api.EvStart
		for range random.Intn(4) {
			e.Keep = append(e.Keep, random.Intn(100)-20)
		}
	case n < 86:
		e.What, e.A = api.EvArm, random.Intn(12)
	case n < 87:
		e.What = api.EvCellCrash
	case n < 89:
		e.What = api.EvCellStart
	case n < 95:
		e.What, e.Text = api.EvAsk, put(randomOp(random))
	case n < 96:
		e.What, e.Text = api.EvAsk, []string{"\x12", "", "junk", "\x10"}[random.Intn(4)]
	case n < 99:
		e.What = api.EvRound
	default:
		e.What = random.Intn(20) - 3
	}
	return e
}

// W1, W2: long random lists.
func TestRandom(t *testing.T) {
	t.Parallel()
	ran := 0
	for seed := range int64(60) {
		random := rand.New(rand.NewSource(seed))
		x := newPair(t)
		for i := range 500 {
			x.do(randomEvent(random, x.w.Under()))
			if i%8 == 0 {
				x.isSo()
			}
			if i%100 == 99 {
				x.rounds(random.Intn(40))
			}
			for c := range 3 {
				ran += len(x.w.Running(c, -2))
			}
		}
		x.isSo()
	}
	if ran < 5000 {
		t.Errorf("only %d ran", ran)
	}
}

// The rules.

// Rule R1: numbers from the least to the greatest in each event, and lists and texts of any length.
func TestExtremes(t *testing.T) {
	x := begin(t, 3, node("m", 0, 4), work("a", 3)).rounds(35)
	long, texts := make([]int, 1<<20), []string{strings.Repeat("a", 1<<22), strings.Repeat("\xff", 1<<22), strings.Repeat("\x02", 1<<22)}
	for what := range 15 {
		for _, a := range strange() {
			for _, skew := range []int{math.MinInt, -3, 0, 3, math.MaxInt} {
				x.do(api.Event{What: what, A: a, Skew: skew, Keep: []int{a, skew, a}, Text: "\x12"})
			}
		}
		for _, s := range texts {
			x.do(api.Event{What: what, Keep: long, Text: s})
		}
		x.isSo()
	}
	for _, c := range strange() {
		x.w.Alive(c)
		x.w.Look(c)
		for _, skew := range strange() {
			if got, want := x.w.Running(c, skew), x.m.running(c, skew); !slices.Equal(got, want) {
				x.fail(got, want)
			}
		}
	}
}

// Rule R1: a world lasts, however much happens.
func TestManyEvents(t *testing.T) {
	t.Parallel()
	x := begin(t, 3, node("m", 0, 4), node("n", 1, 4), work("a", 6))
	for i := range 3000 {
		x.do(skewed(api.EvRound, 0, i))
		x.do(ask(scale("a", 5+i%2)))
		if i%100 == 0 {
			x.do(ev(api.EvCellStart, i/100%3))
			x.do(ev(api.EvStart, 0))
		}
	}
	x.asks(scale("a", 8))
	x.rounds(64)
	x.runs(0, 0, bind("a", "m", 4))
	x.runs(1, 0, bind("a", "n", 4))
	if x.epoch() != 31 {
		t.Error(x.epoch())
	}
}

// Rule R1: so does its disk.
func TestManyOperations(t *testing.T) {
	t.Parallel()
	w := world.New()
	w.Do(ev(api.EvStart, 0))
	w.Do(ask(work("a", 0)))
	for i := range 12000 {
		if got := w.Do(ask(scale("a", i%17))); got != "\x00" {
			t.Fatalf("operation %d is answered %q", i, got)
		}
		if i%6000 == 5999 {
			w.Do(ev(api.EvStart, 0))
			if s, up := w.State(); !up || s.Epoch != 2+i/6000 || len(s.Works) != 1 || s.Works[0].Want != i%17 {
				t.Fatal(s, up)
			}
		}
	}
}

// lent is a text in memory that its owner changes later.
func lent(s string) (string, []byte) {
	own := []byte(s)
	return unsafe.String(unsafe.SliceData(own), len(own)), own
}

// Rule R3: an event may be changed once it has happened, also the memory of its text; it is not changed by the world, nor is what is behind the length of its list.
func TestArgumentsApart(t *testing.T) {
	x, y := begin(t, 1), begin(t, 1)
	for _, o := range []api.Op{node("abc", 0, 4), {Kind: api.OpSubmit, Work: api.Work{ID: "web", Want: 3, PerNode: 4, PerCell: 16, Selector: "!gpu"}}, scale("web", 2)} {
		s, memory := lent(put(o))
		if got := x.w.Do(api.Event{What: api.EvAsk, Text: s}); got != "\x00" || string(memory) != put(o) {
			t.Errorf("%q, %q", got, memory)
		}
		clear(memory)
		y.asks(o)
	}
	if got, want := first(x.w.State()), first(y.w.State()); !sameState(got, want) {
		t.Errorf("%v; not %v", got, want)
	}
	for many := range 6 {
		whole := []int{9, -9, 1 << 40, math.MinInt, 3, 4}
		before := slices.Clone(whole)
		x.w.Do(ev(api.EvArm, 2))
		x.w.Do(ask(scale("web", many)))
		x.w.Do(api.Event{What: api.EvStart, Keep: whole[:many]})
		if !slices.Equal(whole, before) {
			t.Errorf("changed: %v", whole)
		}
	}
}

func first[A, B any](a A, _ B) A { return a }

// everything is all that a world tells, as lists that a caller may change.
func everything(w *world.World) ([][]api.Bind, api.State) {
	var l [][]api.Bind
	for range 2 {
		for c := range 3 {
			l = append(l, w.Running(c, 0))
		}
		for i := range w.Under() {
			l = append(l, first(w.Look(i)).Binds)
		}
	}
	return l, first(w.State())
}

// busy is a world of which everything tells much.
func busy(t *testing.T) *pair {
	t.Helper()
	x := begin(t, 3, node("m", 0, 4), node("n", 1, 4), node("o", 2, 4), node("p", 2, 4), work("a", 5), work("b", 9)).rounds(40)
	x.asks(scale("a", 6))
	return x.also(ev(api.EvPlacer, 0))
}

// Rule R3: an answer may be changed and extended without changing the world or another answer, and it lasts.
func TestAnswersApart(t *testing.T) {
	x, y := busy(t), busy(t)
	kept, _ := everything(x.w)
	want, _ := everything(y.w)
	for range 8 {
		gotBinds, gotState := everything(x.w)
		wantBinds, wantState := everything(y.w)
		if !sameState(gotState, wantState) {
			t.Fatalf("%v; not %v", gotState, wantState)
		}
		for i := range gotBinds {
			if !slices.Equal(gotBinds[i], wantBinds[i]) {
				t.Fatalf("answer %d is %v; not %v", i, gotBinds[i], wantBinds[i])
			}
			whole := gotBinds[i][:cap(gotBinds[i])]
			for k := range whole {
				whole[k] = bind("z", "z", 9)
			}
		}
		clear(gotState.Works[:cap(gotState.Works)])
		clear(gotState.Nodes[:cap(gotState.Nodes)])
		x.w.Do(ev(api.EvRound, 0))
		y.w.Do(ev(api.EvRound, 0))
	}
	for i := range kept {
		if !slices.Equal(kept[i], want[i]) {
			t.Errorf("answer %d: %v; not %v", i, kept[i], want[i])
		}
	}
}

// Rule R3: no two answers have the memory of a text in common.
func TestTextsApart(t *testing.T) {
	x := busy(t)
	var texts []string
	for range 2 {
		binds, s := everything(x.w)
		for _, l := range binds {
			for _, b := range l {
				texts = append(texts, b.Work, b.Node)
			}
		}
		for _, w := range s.Works {
			texts = append(texts, w.ID)
		}
		for _, n := range s.Nodes {
			texts = append(texts, n.ID)
		}
	}
	seen := map[*byte]bool{}
	for _, s := range texts {
		if seen[unsafe.StringData(s)] {
			t.Errorf("%q is in the memory of another answer", s)
		}
		seen[unsafe.StringData(s)] = true
	}
	if len(texts) < 80 {
		t.Error(len(texts))
	}
}

// Rule R4: worlds are apart, and the same events lead to the same; asking changes nothing.
func TestWorldsApart(t *testing.T) {
	t.Parallel()
	for seed := range int64(20) {
		random := rand.New(rand.NewSource(seed + 5000))
		x, y, other := newPair(t), newPair(t), newPair(t)
		for i := range 150 {
			e := randomEvent(random, x.w.Under())
			x.do(e)
			x.isSo()
			other.do(randomEvent(random, other.w.Under()))
			other.isSo()
			y.do(e)
			if i%50 == 49 {
				y.isSo()
			}
		}
	}
}
