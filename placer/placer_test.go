package placer_test

import (
	"fmt"
	"math"
	"math/rand"
	"regexp"
	"slices"
	"strconv"
	"strings"
	"testing"
	"unsafe"

	"billet/api"
	"billet/balance"
	"billet/cell"
	"billet/disk"
	"billet/intent"
	"billet/msg"
	"billet/place"
	"billet/placer"
	"billet/share"
	"billet/store"
)

const (
	last      = 1099511627776 // the greatest Boot, Epoch and Version, and the greatest time: 2^40
	lastUntil = 2199023255552 // the greatest Until of a message; the least is its negative
)

// The chapter's words, anew.

// model is a placer; what there may not be yet is a list of none or one.
type model struct {
	state  api.State
	failed api.Errno // the store's Error
	target []api.Bind
	cells  map[int]*modelCell
}

type modelCell struct {
	boot          []int
	seen          []api.Message
	follows, owed bool
	version       int
	heard         int
	sent          []api.Bind
	sentUntil     int
	sentAt        int
	unknownUntil  []int // of the book
	book          []api.Message
}

// newModel is what L1 says of New.
func newModel(s api.State, now int) *model {
	m := &model{state: s, cells: map[int]*modelCell{}}
	for c := range 3 {
		m.cells[c] = &modelCell{unknownUntil: []int{limited(now) + 20 + 4}}
	}
	return m
}

// limited is the time as which chapter 14 counts an argument.
func limited(time int) int {
	switch {
	case time < -last:
		return -last
	case time > last:
		return last
	}
	return time
}

// isOver is chapter 14's Over.
func isOver(now, until int) bool { return limited(now) >= limited(until)+4 }

// pass and held are what E2 and E3 say of the book.
func (c *modelCell) pass(now int) {
	var left []api.Message
	for _, g := range c.book {
		if !isOver(now, g.Until) {
			left = append(left, g)
		}
	}
	c.book = left
	if len(c.unknownUntil) > 0 && isOver(now, c.unknownUntil[0]) {
		c.unknownUntil = nil
	}
}

func (c *modelCell) held(work string) int {
	if len(c.unknownUntil) > 0 {
		return -1
	}
	most := 0
	for _, g := range c.book {
		most = max(most, countIn(g.Binds, work))
	}
	return most
}

// countIn is how many replicas of a workload binds have.
func countIn(l []api.Bind, work string) int {
	sum := 0
	for _, b := range l {
		if b.Work == work {
			sum += b.Count
		}
	}
	return sum
}

// isUp is what the words call up.
func (c *modelCell) isUp(now int) bool { return c.follows && limited(now) <= c.heard+10 }

// do is what L1 says of Do.
func (p *model) do(o api.Op) api.Errno {
	if o.Kind == 8 {
		return 120
	}
	if p.failed != api.OK {
		return p.failed
	}
	next, e := intent.Apply(p.state, o)
	if e == api.OK {
		p.state = next
	}
	return e
}

// receive is what L2 says of Receive.
func (p *model) receive(now int, m api.Message) bool {
	if !isValid(m) || m.Kind != 2 {
		return false
	}
	c := p.cells[m.Cell]
	if len(c.seen) == 0 || !isAfter(c.seen[0], m) {
		c.seen = []api.Message{m}
	}
	known := len(c.boot) > 0
	sameBoot := known && m.Boot == c.boot[0]
	if known && m.Boot < c.boot[0] {
		return false
	}
	if m.Epoch > p.state.Epoch {
		return false
	}
	if m.Epoch < p.state.Epoch {
		if sameBoot && c.follows {
			return false
		}
		c.follows = false
		return true
	}
	if sameBoot {
		c.acked(m.Version)
	} else {
		p.learn(c, m)
	}
	c.follows = true
	c.heard = limited(now)
	return true
}

// acked is what E2 says of it.
func (c *modelCell) acked(version int) {
	var left []api.Message
	for _, g := range c.book {
		if g.Version >= version {
			left = append(left, g)
		}
	}
	c.book = left
}

// learn is the fifth case of L2.
func (p *model) learn(c *modelCell, m api.Message) {
	c.boot = []int{m.Boot}
	c.unknownUntil = nil
	c.book = []api.Message{{Version: m.Version, Until: m.Until, Binds: m.Binds}}
	c.sent, c.sentUntil = m.Binds, m.Until
	if m.Version > c.version {
		c.version = m.Version
	}
	c.owed = true
	var target []api.Bind
	for _, b := range p.target {
		if p.cellOf(b.Node) != m.Cell {
			target = append(target, b)
		}
	}
	for _, b := range m.Binds {
		target = append(target, b)
	}
	p.target = target
}

// cellOf is the cell of a node, or -1.
func (p *model) cellOf(node string) int {
	for _, n := range p.state.Nodes {
		if n.ID == node {
			return n.Cell
		}
	}
	return -1
}

// isAfter is what the words call a later report.
func isAfter(a, b api.Message) bool {
	return a.Boot > b.Boot || a.Boot == b.Boot && a.Epoch > b.Epoch || a.Boot == b.Boot && a.Epoch == b.Epoch && a.Version > b.Version
}

// step is what L3 says of Step.
func (p *model) step(now int) []api.Message {
	if p.failed != api.OK {
		return nil
	}
	now = limited(now)
	for _, c := range p.cells {
		c.pass(now)
	}
	problem := api.Problem{Works: slices.Clone(p.state.Works), Nodes: slices.Clone(p.state.Nodes)}
	for i, n := range problem.Nodes {
		if !p.cells[n.Cell].isUp(now) {
			problem.Nodes[i].Cordoned = true
		}
	}
	p.target, _ = place.Solve(problem, p.target)
	p.target, _, _ = balance.Even(problem, p.target)
	var works []string
	allowed := map[int][]int{}
	free := map[string]bool{}
	for _, w := range problem.Works {
		works = append(works, w.ID)
		var share []int
		share, free[w.ID] = p.shared(w)
		for c, n := range share {
			allowed[c] = append(allowed[c], n)
		}
	}
	var all []api.Message
	for c := range 3 {
		if m, sends := p.message(now, c, works, allowed[c], free); sends {
			all = append(all, m)
		}
	}
	return all
}

// part is the target on the nodes of a cell.
func (p *model) part(c int) []api.Bind {
	var l []api.Bind
	for _, b := range p.target {
		if p.cellOf(b.Node) == c {
			l = append(l, b)
		}
	}
	return l
}

// shared is what each cell is allowed of a workload, and whether that is free.
func (p *model) shared(w api.Work) ([]int, bool) {
	var held, target []int
	sum, unknown := 0, false
	for c := range 3 {
		h := p.cells[c].held(w.ID)
		held = append(held, h)
		target = append(target, countIn(p.part(c), w.ID))
		sum += h
		unknown = unknown || h < 0
	}
	allowed := share.Share(w.Want, held, target)
	if !unknown && sum <= w.Want {
		return allowed, true
	}
	for c := range 3 {
		allowed[c] = min(allowed[c], countIn(p.cells[c].sent, w.ID))
	}
	return allowed, false
}

// message is what a cell is sent, if it is sent anything.
func (p *model) message(now, number int, works []string, allowed []int, free map[string]bool) (api.Message, bool) {
	c := p.cells[number]
	if !c.isUp(now) {
		return api.Message{Kind: 1, Cell: number, Epoch: p.state.Epoch}, true
	}
	l := share.Trim(p.part(number), c.sent, works, allowed)
	if !c.owed && slices.Equal(l, c.sent) && now-c.sentAt < 4 || c.version == last {
		return api.Message{}, false
	}
	until := now + 20
	for _, b := range l {
		if !free[b.Work] {
			until = c.sentUntil
		}
	}
	c.version++
	m := api.Message{Kind: 1, Cell: number, Boot: c.boot[0], Epoch: p.state.Epoch, Version: c.version, Until: until, Binds: l}
	c.book = append(c.book, m)
	c.sent, c.sentUntil, c.sentAt, c.owed = l, until, now, false
	return m, true
}

func isBetween(x, low, high int) bool { return low <= x && x <= high }

var name = regexp.MustCompile(`^[a-z0-9]{1,12}$`)

// isValid is chapter 16's valid message.
func isValid(m api.Message) bool {
	for i, b := range m.Binds {
		if !name.MatchString(b.Work) || !name.MatchString(b.Node) || !isBetween(b.Count, 1, 1000) {
			return false
		}
		if i > 0 && (m.Binds[i-1].Work > b.Work || m.Binds[i-1].Work == b.Work && m.Binds[i-1].Node >= b.Node) {
			return false
		}
	}
	times := isBetween(m.Boot, 0, last) && isBetween(m.Epoch, 0, last) && isBetween(m.Version, 0, last)
	return isBetween(m.Kind, 1, 2) && isBetween(m.Cell, 0, 2) && times && isBetween(m.Until, -lastUntil, lastUntil) && len(m.Binds) <= 64
}

// same reports whether two messages are equal.
func same(a, b api.Message) bool {
	return a.Kind == b.Kind && a.Cell == b.Cell && a.Boot == b.Boot && a.Epoch == b.Epoch && a.Version == b.Version && a.Until == b.Until && slices.Equal(a.Binds, b.Binds)
}

// sameState reports whether two states are equal.
func sameState(a, b api.State) bool {
	return a.Epoch == b.Epoch && slices.Equal(a.Works, b.Works) && slices.Equal(a.Nodes, b.Nodes)
}

// A placer beside what the words say of it.

// pair is both, and all that was done so far.
type pair struct {
	t    *testing.T
	d    *disk.Disk
	p    *placer.Placer
	m    *model
	past []call
}

// call is one of a placer, with its arguments.
type call struct {
	what string
	now  int
	arg  any
}

// opened is a store on a disk.
func opened(t *testing.T, d *disk.Disk) *store.Store {
	t.Helper()
	s, e := store.Open(d)
	if e != api.OK {
		t.Fatal("Open: ", e)
	}
	return s
}

// newPair starts a placer at a time, whose epoch is as many starts of a store on one disk.
func newPair(t *testing.T, epoch, now int) *pair {
	t.Helper()
	x := &pair{t: t, d: disk.New()}
	for range epoch - 1 {
		opened(t, x.d)
	}
	x.restart(now)
	return x
}

// begin starts a placer at time 0 in epoch 1, which performs operations.
func begin(t *testing.T, ops ...api.Op) *pair {
	t.Helper()
	x := newPair(t, 1, 0)
	for _, o := range ops {
		x.do(o)
	}
	return x
}

// restart starts a placer on the same disk.
func (x *pair) restart(now int) {
	x.t.Helper()
	s := opened(x.t, x.d)
	x.p, x.m = placer.New(s, now), newModel(s.State(), now)
	x.past = append(x.past, call{"New", now, nil})
	x.isSo(now)
}

// fail tells that the placer did something else than it should have done, and all that was done before.
func (x *pair) fail(got, want any) {
	x.t.Helper()
	for _, c := range x.past {
		x.t.Logf("%s %d %+v", c.what, c.now, c.arg)
	}
	x.t.Fatalf("%v; not %v", got, want)
}

func (x *pair) do(o api.Op) api.Errno {
	x.t.Helper()
	x.past = append(x.past, call{"Do", 0, o})
	got, want := x.p.Do(o), x.m.do(o)
	if got != want {
		x.fail(got, want)
	}
	return got
}

func (x *pair) receive(now int, m api.Message) bool {
	x.t.Helper()
	x.past = append(x.past, call{"Receive", now, m})
	got, want := x.p.Receive(now, m), x.m.receive(now, m)
	if got != want {
		x.fail(got, want)
	}
	x.isSo(now)
	return got
}

func (x *pair) step(now int) []api.Message {
	x.t.Helper()
	x.past = append(x.past, call{"Step", now, nil})
	before := x.promised(now)
	got, want := x.p.Step(now), x.m.step(now)
	if !slices.EqualFunc(got, want, same) {
		x.fail(got, want)
	}
	x.isSo(now)
	before.isKept(x, got)
	return got
}

// works are the IDs of workloads that the tests use, and some that no workload has.
func works() []string { return []string{"a", "b", "c", "d", "web", "z", "", "A"} }

// isSo tells if the placer doesn't answer what the words say, or if that isn't all that it answers.
func (x *pair) isSo(now int) {
	x.t.Helper()
	for c := -1; c <= 3; c++ {
		want := x.m.cells[c]
		if want == nil {
			want = &modelCell{}
		}
		for _, w := range works() {
			if got := x.p.Held(c, w); got != want.held(w) {
				x.fail(fmt.Sprintf("Held(%d, %s): %d", c, w, got), want.held(w))
			}
		}
		for _, time := range []int{now, want.heard, want.heard + 10, want.heard + 11} {
			if got := x.p.Up(time, c); got != want.isUp(time) {
				x.fail(fmt.Sprintf("Up(%d, %d): %v", time, c, got), want.isUp(time))
			}
		}
		got, there := x.p.Seen(c)
		if there != (len(want.seen) == 1) || there && !same(got, want.seen[0]) || !there && !same(got, api.Message{}) {
			x.fail(fmt.Sprintf("Seen(%d): %v, %v", c, got, there), want.seen)
		}
	}
	if got := x.p.State(); !sameState(got, x.m.state) {
		x.fail(got, x.m.state)
	}
}

// Short forms for tables.

func bind(work, node string, count int) api.Bind {
	return api.Bind{Work: work, Node: node, Count: count}
}

func node(id string, cell, slots int) api.Op {
	return api.Op{Kind: 4, Node: api.Node{ID: id, Cell: cell, Slots: slots}}
}

func work(id string, want int) api.Op {
	return api.Op{Kind: 1, Work: api.Work{ID: id, Want: want, PerNode: 4, PerCell: 16}}
}

func named(kind int, id string) api.Op { return api.Op{Kind: kind, ID: id} }

func scale(id string, want int) api.Op { return api.Op{Kind: 2, ID: id, Want: want} }

// report is one of epoch 1.
func report(cell, boot, version, until int, l ...api.Bind) api.Message {
	return api.Message{Kind: 2, Cell: cell, Boot: boot, Epoch: 1, Version: version, Until: until, Binds: l}
}

// in is a message of another epoch.
func in(epoch int, m api.Message) api.Message {
	m.Epoch = epoch
	return m
}

// grant is one of epoch 1, greeting too.
func grant(cell, boot, version, until int, l ...api.Bind) api.Message {
	return api.Message{Kind: 1, Cell: cell, Boot: boot, Epoch: 1, Version: version, Until: until, Binds: l}
}

func greeting(cell int) api.Message { return api.Message{Kind: 1, Cell: cell, Epoch: 1} }

// sends tells if a step sends anything else.
func (x *pair) sends(now int, want ...api.Message) {
	x.t.Helper()
	if got := x.step(now); !slices.EqualFunc(got, want, same) {
		x.fail(got, want)
	}
}

// holds tells if what the cells hold of a workload is something else.
func (x *pair) holds(work string, want ...int) {
	x.t.Helper()
	for c, n := range want {
		if got := x.p.Held(c, work); got != n {
			x.t.Errorf("Held(%d, %s): %d; not %d", c, work, got, n)
		}
	}
}

// takes tells if Receive answers anything but true; refuses, anything but false.
func (x *pair) takes(now int, l ...api.Message) {
	x.t.Helper()
	for _, m := range l {
		if !x.receive(now, m) {
			x.t.Errorf("Receive(%d, %v) is false", now, m)
		}
	}
}

func (x *pair) refuses(now int, l ...api.Message) {
	x.t.Helper()
	for _, m := range l {
		if x.receive(now, m) {
			x.t.Errorf("Receive(%d, %v) is true", now, m)
		}
	}
}

// all is the first report of each cell, of boot 1.
func all() []api.Message {
	return []api.Message{report(0, 1, 0, 0), report(1, 1, 0, 0), report(2, 1, 0, 0)}
}

// The chapter's example.

func TestTheExample(t *testing.T) {
	x := begin(t, node("n", 0, 2), work("a", 3))
	x.sends(0, greeting(0), greeting(1), greeting(2))
	x.takes(1, report(0, 1, 0, 0))
	x.holds("a", 0, -1, -1)
	x.sends(1, grant(0, 1, 1, 21), greeting(1), greeting(2))
	for now := 2; now < 28; now++ {
		x.takes(now, report(0, 1, x.m.cells[0].version, now+19))
		for _, m := range x.step(now) {
			if len(m.Binds) != 0 {
				t.Errorf("at %d: %v", now, m)
			}
		}
	}
	x.takes(28, report(0, 1, 7, 45))
	x.sends(28, grant(0, 1, 8, 48, bind("a", "n", 2)), greeting(1), greeting(2))
	x.holds("a", 2, 0, 0)
}

// L1.

// TestNew: a new placer knows nothing, whenever it is started.
func TestNew(t *testing.T) {
	if placer.New(nil, 0) != nil || placer.New(nil, math.MinInt) != nil || placer.New(nil, math.MaxInt) != nil {
		t.Error("there is a placer without a store")
	}
	for _, now := range []int{0, 7, -7, 100, last - 30, last - 1, last, last + 1, math.MaxInt, -last - 1, -last, 1 - last, math.MinInt} {
		x := newPair(t, 1, now)
		x.do(work("a", 3))
		x.holds("a", -1, -1, -1)
		for _, time := range []int{math.MinInt, -last, now - 1, now, now + 1, 0, last, math.MaxInt} {
			for c := -1; c < 4; c++ {
				if x.p.Up(time, c) {
					t.Errorf("New at %d: cell %d is up at %d", now, c, time)
				}
			}
		}
		x.sends(now, greeting(0), greeting(1), greeting(2))
		x.takes(now, report(1, 0, 0, 0))
		x.sends(now, greeting(0), grant(1, 0, 1, limited(now)+20), greeting(2))
	}
}

// TestUnknown: a cell that tells nothing is unknown until 28 ticks behind New.
func TestUnknown(t *testing.T) {
	for _, start := range []int{0, 5, -40, last - 28, last - 29, -last} {
		x := newPair(t, 1, start)
		x.do(work("a", 3))
		for _, now := range []int{start - 1, start, start + 1, start + 20, start + 24, start + 26, start + 27} {
			x.sends(now, greeting(0), greeting(1), greeting(2))
			x.holds("a", -1, -1, -1)
		}
		x.holds("a", -1, -1, -1)
		x.sends(start+28, greeting(0), greeting(1), greeting(2))
		x.holds("a", 0, 0, 0)
		x.sends(start, greeting(0), greeting(1), greeting(2))
		x.holds("a", 0, 0, 0)
	}
	x := newPair(t, 1, last-27)
	x.do(work("a", 3))
	x.step(math.MaxInt)
	x.holds("a", -1, -1, -1)
}

// TestDo: the errors of the store, but OpEpoch is never performed.
func TestDo(t *testing.T) {
	x := begin(t)
	wrong := work("A", 1)
	for _, y := range []struct {
		o    api.Op
		want api.Errno
	}{
		{api.Op{Kind: 8}, 120},
		{api.Op{Kind: 8, Work: work("a", 1).Work, Node: node("n", 0, 1).Node, ID: "a", Want: 1}, 120},
		{work("a", 1), 0}, {work("a", 1), 121}, {scale("a", 2), 0}, {scale("b", 2), 122}, {scale("a", 17), 120}, {wrong, 120},
		{node("n", 0, 4), 0}, {node("n", 1, 1), 121}, {node("m", 3, 1), 120}, {named(6, "n"), 0}, {named(6, "m"), 122}, {named(7, "n"), 0},
		{named(3, "b"), 122}, {named(5, "m"), 122}, {api.Op{}, 120}, {api.Op{Kind: 9, ID: "a"}, 120}, {api.Op{Kind: -1}, 120},
		{work("b", 1), 0}, {work("c", 1), 0}, {work("d", 1), 0}, {work("e", 1), 0}, {work("f", 1), 0}, {work("g", 1), 0}, {work("h", 1), 0}, {work("i", 1), 123},
		{named(3, "h"), 0}, {named(5, "n"), 0}, {work("i", 1), 0}, {api.Op{Kind: 8}, 120},
	} {
		before, acts := x.p.State(), x.d.Acts()
		if got := x.do(y.o); got != y.want {
			t.Errorf("Do(%+v): %d; not %d", y.o, got, y.want)
		}
		if changed := !sameState(x.p.State(), before); changed != (y.want == 0) {
			t.Errorf("Do(%+v): %v; before %v", y.o, x.p.State(), before)
		}
		if y.o.Kind == 8 && x.d.Acts() != acts {
			t.Error("OpEpoch comes to the disk")
		}
		x.isSo(0)
	}
	s := opened(t, x.d)
	after := x.p.State()
	after.Epoch++
	if !sameState(s.State(), after) {
		t.Errorf("the disk has %v; not %v", s.State(), after)
	}
	if api.ErrIntentForm != 120 || api.OpEpoch != 8 {
		t.Error("they have other numbers")
	}
}

// TestDoFails: an error of the disk comes from Do, from then on; that of OpEpoch stays what it is.
func TestDoFails(t *testing.T) {
	for acts := 1; acts <= 2; acts++ {
		x := begin(t, work("a", 1))
		x.d.Arm(acts)
		if e := x.p.Do(work("b", 1)); e != api.ErrDiskPower {
			t.Errorf("%d: %d", acts, e)
		}
		x.d.Restart(nil)
		for range 2 {
			if e := x.p.Do(work("c", 1)); e != api.ErrDiskPower {
				t.Errorf("%d: %d", acts, e)
			}
			if e := x.p.Do(api.Op{Kind: 1}); e != api.ErrDiskPower {
				t.Errorf("%d: %d", acts, e)
			}
			if e := x.p.Do(api.Op{Kind: 8}); e != api.ErrIntentForm {
				t.Errorf("%d: %d", acts, e)
			}
		}
		x.isSo(0)
	}
}

// Up, Seen and Held.

// TestUp: until 10 ticks behind the last report that counts, also at a reading ahead of it.
func TestUp(t *testing.T) {
	for _, heard := range []int{0, 1, 100, -100, last - 11, last - 10, last - 9, last, last + 7, math.MaxInt, -last, -last - 9, math.MinInt} {
		x := begin(t)
		x.takes(heard, report(1, 3, 0, 0))
		at := limited(heard)
		for _, now := range []int{math.MinInt, -last - 1, -last, at - 1000, at - 1, at, at + 1, at + 9, at + 10, at + 11, at + 12, at + 1000, last, last + 1, math.MaxInt} {
			if got, want := x.p.Up(now, 1), limited(now) <= at+10; got != want {
				t.Errorf("heard at %d: Up at %d is %v", heard, now, got)
			}
			for _, c := range []int{0, 2, -1, 3, 4, math.MinInt, math.MaxInt, 1 << 32, 1<<32 + 1} {
				if x.p.Up(now, c) {
					t.Errorf("cell %d is up", c)
				}
			}
		}
		if heard >= last-10 != x.p.Up(math.MaxInt, 1) || heard < 1000 && x.p.Up(1010, 1) {
			t.Errorf("heard at %d", heard)
		}
	}
}

// TestHeard: what makes a cell heard, and what doesn't.
func TestHeard(t *testing.T) {
	start := func() *pair {
		x := newPair(t, 3, 0)
		x.takes(0, in(3, report(0, 5, 2, 30)))
		return x
	}
	for _, y := range []struct {
		what string
		m    api.Message
		up   bool
	}{
		{"the same again", in(3, report(0, 5, 2, 30)), true},
		{"an earlier version", in(3, report(0, 5, 1, 30)), true},
		{"a later version", in(3, report(0, 5, 3, 30)), true},
		{"a later boot", in(3, report(0, 6, 0, 0)), true},
		{"an earlier boot", in(3, report(0, 4, 2, 30)), false},
		{"an earlier epoch", in(2, report(0, 5, 2, 30)), false},
		{"no epoch", in(0, report(0, 5, 0, 0)), false},
		{"a later epoch", in(4, report(0, 5, 2, 30)), false},
		{"a later boot in an earlier epoch", in(2, report(0, 6, 2, 30)), false},
		{"a later boot in a later epoch", in(4, report(0, 6, 2, 30)), false},
		{"another cell", in(3, report(1, 5, 2, 30)), false},
		{"a grant", in(3, grant(0, 5, 2, 30)), false},
		{"no message", api.Message{}, false},
	} {
		x := start()
		x.receive(8, y.m)
		if got := x.p.Up(18, 0); got != y.up {
			t.Errorf("%s: %v", y.what, got)
		}
		if x.p.Up(19, 0) {
			t.Errorf("%s: for longer", y.what)
		}
	}
	x := start()
	x.takes(-5, in(3, report(0, 5, 2, 30)))
	if x.p.Up(6, 0) || !x.p.Up(5, 0) {
		t.Error("heard ahead of the last time: that counts")
	}
}

// TestSeen: the last report of each cell, by boot, epoch and version, whether Receive took it or not.
func TestSeen(t *testing.T) {
	numbers := [][3]int{{0, 0, 0}, {0, 0, 1}, {0, 1, 0}, {0, 1, 5}, {0, 2, 3}, {1, 0, 0}, {1, 0, 9}, {1, 2, 2}, {2, 0, 0}, {2, 1, 1}, {2, 3, 0}, {last, 0, 0}, {last, last, last}}
	of := func(c int, n [3]int, until int) api.Message {
		return in(n[1], report(c, n[0], n[2], until, bind("a", "n", until)))
	}
	for i, first := range numbers {
		for j, second := range numbers {
			x := newPair(t, 2, 0)
			x.receive(0, of(2, first, 1))
			x.receive(0, of(1, first, 3))
			x.receive(0, of(2, second, 2))
			want := of(2, second, 2)
			if i > j {
				want = of(2, first, 1)
			}
			if got, there := x.p.Seen(2); !there || !same(got, want) {
				t.Errorf("%v, %v: %v", first, second, got)
			}
			if got, there := x.p.Seen(1); !there || !same(got, of(1, first, 3)) {
				t.Errorf("cell 1: %v", got)
			}
			for _, c := range []int{0, -1, 3, 4, math.MinInt, math.MaxInt, 1 << 32, 1<<32 + 2} {
				if got, there := x.p.Seen(c); there || !same(got, api.Message{}) {
					t.Errorf("cell %d: %v, %v", c, got, there)
				}
			}
		}
	}
}

// TestHeld: of each cell by itself, and of each workload; nothing of a cell that there is not.
func TestHeld(t *testing.T) {
	x := begin(t)
	x.takes(0, report(0, 1, 4, 30, bind("a", "m", 2), bind("a", "n", 3), bind("b", "m", 1)), report(2, 1, 4, 30, bind("a", "o", 1000), bind("a", "p", 1000)))
	x.holds("a", 5, -1, 2000)
	x.holds("b", 1, -1, 0)
	x.holds("c", 0, -1, 0)
	x.holds("", 0, -1, 0)
	x.holds(strings.Repeat("a", 1<<20), 0, -1, 0)
	for _, c := range []int{-1, 3, 4, math.MinInt, math.MaxInt, 1 << 32, 1<<32 + 1, -2} {
		if got := x.p.Held(c, "a"); got != 0 {
			t.Errorf("cell %d: %d", c, got)
		}
	}
	x.step(33)
	x.holds("a", 5, 0, 2000)
	x.step(34)
	x.holds("a", 0, 0, 0)
}

// L2.

// TestNoReport: what is not valid or not a report changes nothing, and is not seen.
func TestNoReport(t *testing.T) {
	spoil := []func(m *api.Message){
		func(m *api.Message) { m.Kind = 1 },
		func(m *api.Message) { m.Kind = 0 },
		func(m *api.Message) { m.Kind = 3 },
		func(m *api.Message) { m.Kind = -2 },
		func(m *api.Message) { m.Cell = -1 },
		func(m *api.Message) { m.Cell = 3 },
		func(m *api.Message) { m.Cell = math.MaxInt },
		func(m *api.Message) { m.Cell = math.MinInt },
		func(m *api.Message) { m.Boot = -1 },
		func(m *api.Message) { m.Boot = last + 1 },
		func(m *api.Message) { m.Version = -1 },
		func(m *api.Message) { m.Version = last + 1 },
		func(m *api.Message) { m.Epoch = -1 },
		func(m *api.Message) { m.Epoch = last + 1 },
		func(m *api.Message) { m.Until = lastUntil + 1 },
		func(m *api.Message) { m.Until = -lastUntil - 1 },
		func(m *api.Message) { m.Binds[0].Count = 0 },
		func(m *api.Message) { m.Binds[1].Count = 1001 },
		func(m *api.Message) { m.Binds[1].Work = "" },
		func(m *api.Message) { m.Binds[0].Node = "N" },
		func(m *api.Message) { m.Binds[0], m.Binds[1] = m.Binds[1], m.Binds[0] },
		func(m *api.Message) { m.Binds[1] = m.Binds[0] },
		func(m *api.Message) { m.Binds = numbered(65) },
	}
	for i, change := range spoil {
		x := newPair(t, 2, 0)
		x.do(node("n", 0, 4))
		x.do(work("a", 4))
		for _, boot := range []int{1, 2, 3} {
			good := in(2, report(0, boot, 5, 40, bind("a", "n", 1), bind("b", "n", 2)))
			bad := good
			bad.Binds = slices.Clone(good.Binds)
			change(&bad)
			x.refuses(9, bad)
			if boot == 2 {
				x.takes(1, good)
				x.refuses(9, bad)
				if m, _ := x.p.Seen(0); !same(m, good) || x.p.Up(12, 0) || x.p.Held(0, "b") != 2 {
					t.Errorf("spoiled in way %d: %v is seen", i, m)
				}
			} else if _, seen := x.p.Seen(0); boot == 1 && (seen || x.p.Up(9, 0) || x.p.Held(0, "b") != -1) {
				t.Errorf("spoiled in way %d: a report is seen", i)
			}
		}
	}
}

// numbered is so many binds that ascend.
func numbered(many int) []api.Bind {
	var binds []api.Bind
	for i := range many {
		binds = append(binds, bind("workload"+string(rune('a'+i/16)), "node"+string(rune('a'+i%16)), 1000-i))
	}
	return binds
}

// TestReceive: one report behind a few others, by hand; the placer is in epoch 2.
func TestReceive(t *testing.T) {
	old := func(boot int) api.Message { return in(1, report(0, boot, 7, 50, bind("a", "n", 9))) }
	own := func(boot int) api.Message { return in(2, report(0, boot, 3, 50, bind("a", "n", 4))) }
	ahead := func(boot int) api.Message { return in(3, report(0, boot, 3, 50, bind("a", "n", 8))) }
	for _, y := range []struct {
		what     string
		before   []api.Message
		m        api.Message
		took, up bool
		held     int
	}{
		{"the first one", nil, own(5), true, true, 4},
		{"the first one, of boot 0", nil, own(0), true, true, 4},
		{"the first one, of an earlier epoch", nil, old(5), true, false, -1},
		{"the first one, of an earlier epoch and boot 0", nil, old(0), true, false, -1},
		{"the first one, of a later epoch", nil, ahead(5), false, false, -1},
		{"a second one, behind one of an earlier epoch", []api.Message{old(5)}, own(5), true, true, 4},
		{"an earlier boot, behind one of an earlier epoch", []api.Message{old(5)}, own(4), true, true, 4},
		{"an earlier epoch again", []api.Message{old(5)}, old(5), true, false, -1},
		{"an earlier boot behind a later epoch", []api.Message{ahead(5)}, own(4), true, true, 4},
		{"the same", []api.Message{own(5)}, own(5), true, true, 4},
		{"the same of boot 0", []api.Message{own(0)}, own(0), true, true, 4},
		{"an earlier boot", []api.Message{own(5)}, own(4), false, true, 4},
		{"an earlier boot of an earlier epoch", []api.Message{own(5)}, old(4), false, true, 4},
		{"an earlier boot of a later epoch", []api.Message{own(5)}, ahead(4), false, true, 4},
		{"a later epoch", []api.Message{own(5)}, ahead(5), false, true, 4},
		{"a later epoch and boot", []api.Message{own(5)}, ahead(6), false, true, 4},
		{"an earlier epoch of a cell that follows", []api.Message{own(5)}, old(5), false, true, 4},
		{"a later boot of an earlier epoch", []api.Message{own(5)}, old(6), true, false, 4},
		{"the same boot of an earlier epoch, of a cell that does not follow", []api.Message{own(5), old(6)}, old(5), true, false, 4},
		{"the same boot, of a cell that does not follow", []api.Message{own(5), old(6)}, own(5), true, true, 4},
		{"the later boot, of a cell that does not follow", []api.Message{own(5), old(6)}, in(2, report(0, 6, 0, 0)), true, true, 0},
		{"an earlier boot, of a cell that does not follow", []api.Message{own(5), old(6)}, own(4), false, false, 4},
		{"a later boot than the one that did not follow", []api.Message{own(5), old(6)}, in(2, report(0, 9, 0, 9, bind("a", "n", 6))), true, true, 6},
		{"a later boot", []api.Message{own(5)}, in(2, report(0, 6, 0, 0)), true, true, 0},
		{"a much later boot", []api.Message{own(5)}, in(2, report(0, last, last, lastUntil, bind("a", "m", 7))), true, true, 7},
		{"the earlier boot behind a later one", []api.Message{own(5), own(6)}, old(5), false, true, 4},
		{"the epoch before, of a cell that did not follow, follows, and was started again", []api.Message{old(5), own(5), old(6)}, old(6), true, false, 4},
	} {
		x := newPair(t, 2, 0)
		x.do(work("a", 4))
		for _, m := range y.before {
			x.receive(0, m)
		}
		if got := x.receive(6, y.m); got != y.took || x.p.Up(9, 0) != y.up || x.p.Held(0, "a") != y.held {
			t.Errorf("%s: %v, up %v, held %d", y.what, got, x.p.Up(9, 0), x.p.Held(0, "a"))
		}
		x.step(7)
	}
}

// TestAcked: a report of the cell's boot removes the grants ahead of its version, and nothing else of it counts.
func TestAcked(t *testing.T) {
	x := begin(t, node("m", 0, 4), work("a", 4))
	x.takes(0, all()...)
	x.sends(0, grant(0, 1, 1, 20, bind("a", "m", 4)), grant(1, 1, 1, 20), grant(2, 1, 1, 20))
	x.do(scale("a", 3))
	x.sends(1, grant(0, 1, 2, 20, bind("a", "m", 3)))
	x.do(scale("a", 1))
	x.sends(2, grant(0, 1, 3, 20, bind("a", "m", 1)))
	x.holds("a", 4, 0, 0)
	x.takes(3, report(0, 1, 1, 900, bind("a", "m", 9), bind("b", "m", 9)))
	x.holds("a", 4, 0, 0)
	x.holds("b", 0, 0, 0)
	x.takes(3, report(0, 1, 2, -900))
	x.holds("a", 3, 0, 0)
	x.takes(3, report(0, 1, 0, 0), report(0, 1, 1, 20, bind("a", "m", 4)))
	x.holds("a", 3, 0, 0)
	x.takes(3, report(0, 1, 3, 20, bind("a", "m", 1)))
	x.holds("a", 1, 0, 0)
	x.sends(4, grant(1, 1, 2, 24), grant(2, 1, 2, 24))
	x.sends(6, grant(0, 1, 4, 26, bind("a", "m", 1)))
	x.takes(7, report(0, 1, last, 0))
	x.holds("a", 0, 0, 0)
	x.sends(8, grant(1, 1, 3, 28), grant(2, 1, 3, 28))
	x.sends(10, grant(0, 1, 5, 30, bind("a", "m", 1)))
}

// TestLearn: what a cell tells at first, or behind a start, is all that it may be running, and what was sent last.
func TestLearn(t *testing.T) {
	x := begin(t, node("m", 0, 4), node("n", 0, 4), work("a", 4), work("b", 1))
	x.takes(0, report(1, 1, 0, 0), report(2, 1, 0, 0))
	x.takes(0, report(0, 2, 6, 13, bind("a", "n", 2)))
	x.holds("a", 2, 0, 0)
	x.sends(1, grant(0, 2, 7, 21, bind("a", "m", 2), bind("a", "n", 2), bind("b", "m", 1)), grant(1, 1, 1, 21), grant(2, 1, 1, 21))
	x.holds("a", 4, 0, 0)
	x.takes(2, report(0, 3, 2, 9))
	x.holds("a", 0, 0, 0)
	l := x.step(2)
	if len(l) != 1 || l[0].Boot != 3 || l[0].Version != 8 || l[0].Until != 22 || countIn(l[0].Binds, "a") != 4 {
		t.Error(l)
	}
}

// TestVersions: the version goes on behind the greatest one that the cell has told.
func TestVersions(t *testing.T) {
	for _, y := range []struct{ first, second, want int }{
		{0, 0, 2}, {5, 0, 7}, {5, 5, 7}, {5, 6, 7}, {5, 7, 8}, {0, 90, 91}, {last - 2, 0, last}, {last - 3, last - 1, last}, {1, 1 << 32, 1<<32 + 1},
	} {
		x := begin(t)
		x.takes(0, report(0, 1, y.first, 0))
		x.sends(0, grant(0, 1, y.first+1, 20), greeting(1), greeting(2))
		x.takes(0, report(0, 2, y.second, 0))
		x.sends(0, grant(0, 2, y.want, 20), greeting(1), greeting(2))
		// What the cell tells behind that is no reason to leave out versions.
		x.takes(0, report(0, 2, min(y.want+5, last), 0))
		if y.want < last {
			x.sends(4, grant(0, 2, y.want+1, 24), greeting(1), greeting(2))
		}
	}
}

// TestNoVersionLeft: behind version 2^40 a cell gets no grant any more, and nothing is noted as sent.
func TestNoVersionLeft(t *testing.T) {
	for _, version := range []int{last - 1, last} {
		x := begin(t, node("m", 0, 4), work("a", 2))
		x.takes(0, report(0, 1, version, 9, bind("a", "m", 1)), report(1, 1, 0, 0), report(2, 1, 0, 0))
		if version == last-1 {
			x.sends(0, grant(0, 1, last, 20, bind("a", "m", 2)), grant(1, 1, 1, 20), grant(2, 1, 1, 20))
		} else {
			x.sends(0, grant(1, 1, 1, 20), grant(2, 1, 1, 20))
		}
		x.do(scale("a", 4))
		held := x.p.Held(0, "a")
		x.sends(3)
		x.sends(4, grant(1, 1, 2, 24), grant(2, 1, 2, 24))
		x.holds("a", held, 0, 0)
		x.takes(5, report(0, 2, 0, 0))
		x.sends(5)
		x.takes(5, in(0, report(0, 3, 0, 0)))
		x.sends(5, greeting(0))
	}
}

// TestTarget: what is in the nodes of a cell, according to State, is replaced by what that cell tells; all else stays.
func TestTarget(t *testing.T) {
	// All nodes are equal: only the target tells where a was.
	x := begin(t, node("m", 0, 4), node("n", 1, 4), node("o", 2, 4), work("a", 4))
	x.takes(0, report(0, 1, 1, 9), report(1, 1, 1, 9), report(2, 1, 1, 9, bind("a", "o", 4)))
	x.sends(0, grant(0, 1, 2, 20), grant(1, 1, 2, 20), grant(2, 1, 2, 20, bind("a", "o", 4)))
	x.takes(1, report(1, 2, 0, 0))
	x.sends(1, grant(1, 2, 3, 21))
	// What the cell has lost may be anywhere.
	x.takes(2, report(2, 2, 0, 0))
	x.sends(2, grant(0, 1, 3, 22, bind("a", "m", 4)), grant(2, 2, 3, 22))
	// What it tells comes behind what the others have, also if it is in one of their nodes.
	x.takes(3, report(1, 3, 0, 0, bind("a", "n", 1), bind("a", "o", 3)))
	x.takes(3, report(0, 1, 3, 22))
	x.sends(3, grant(1, 3, 4, 23))
	x.do(named(6, "m"))
	x.takes(3, report(0, 2, 0, 0))
	x.sends(3, grant(0, 2, 4, 23), grant(1, 3, 5, 23, bind("a", "n", 4)))
}

// TestTargetOfNoNode: binds of nodes that State does not have stay in the target until a Step; those of a node count by where it is when the report comes.
func TestTargetOfNoNode(t *testing.T) {
	for _, y := range []struct {
		what        string
		cell        int // of o, which is there later than m and n
		again, goes bool
	}{
		{"o comes into the cell", 0, false, true},
		{"o comes into the cell, which is started again", 0, true, false},
		{"o comes into another cell", 1, false, true},
		{"o comes into another cell, and the first one is started again", 1, true, true},
	} {
		x := begin(t, node("m", 0, 4), node("n", 1, 4), work("a", 1))
		x.takes(0, report(0, 1, 0, 0, bind("a", "o", 1)), report(1, 1, 0, 0), report(2, 1, 0, 0))
		x.do(node("o", y.cell, 4))
		boot := 1
		if y.again {
			boot = 2
			x.takes(0, report(0, boot, 0, 0))
		}
		x.step(0)
		x.takes(0, report(0, boot, 1, 0))
		if l := x.step(4); slices.Contains(l[y.cell].Binds, bind("a", "o", 1)) != y.goes {
			t.Errorf("%s: %v", y.what, l)
		}
	}
}

// L3.

// TestStepFails: behind an error of the store nothing is sent and nothing is done, but reports are taken.
func TestStepFails(t *testing.T) {
	x := begin(t, node("m", 0, 4), work("a", 4))
	x.takes(0, all()...)
	x.sends(0, grant(0, 1, 1, 20, bind("a", "m", 4)), grant(1, 1, 1, 20), grant(2, 1, 1, 20))
	x.d.Arm(1)
	if e := x.p.Do(work("b", 2)); e != api.ErrDiskPower {
		t.Error(e)
	}
	x.m.failed = api.ErrDiskPower
	for _, now := range []int{1, 4, 23, 24, 100, last, math.MaxInt, math.MinInt} {
		x.sends(now)
		x.holds("a", 4, 0, 0)
		x.takes(now, report(1, 1, 1, 20))
		if !x.p.Up(now, 1) {
			t.Errorf("cell 1 isn't up at %d", now)
		}
	}
	x.takes(100, report(0, 1, 1, 20, bind("a", "m", 4)))
	x.holds("a", 4, 0, 0)
	x.takes(100, report(0, 2, 1, 20, bind("a", "m", 3)))
	x.holds("a", 3, 0, 0)
	x.d.Restart(nil)
	x.sends(101)
	x.restart(101)
	x.m.failed = api.OK
	x.sends(101, in(2, greeting(0)), in(2, greeting(1)), in(2, greeting(2)))
}

// TestNewFails: nor does a placer send anything whose store has failed ahead of New.
func TestNewFails(t *testing.T) {
	x := begin(t)
	d := disk.New()
	s := opened(t, d)
	d.Arm(1)
	s.Do(work("a", 1))
	x.p, x.m, x.d = placer.New(s, 0), newModel(s.State(), 0), d
	x.m.failed = api.ErrDiskPower
	for now := range 40 {
		x.sends(now)
	}
	x.takes(40, report(0, 1, 0, 0))
	x.holds("a", 0, -1, -1)
}

// TestGreetings: each cell that is not up gets a greeting at each Step, of the placer's epoch.
func TestGreetings(t *testing.T) {
	for epoch := 1; epoch < 12; epoch++ {
		x := newPair(t, epoch, 0)
		for range 3 {
			x.sends(0, in(epoch, greeting(0)), in(epoch, greeting(1)), in(epoch, greeting(2)))
		}
		x.takes(0, in(epoch, report(1, 7, 3, 9, bind("a", "m", 1))))
		x.sends(10, in(epoch, greeting(0)), in(epoch, grant(1, 7, 4, 30)), in(epoch, greeting(2)))
		x.sends(11, in(epoch, greeting(0)), in(epoch, greeting(1)), in(epoch, greeting(2)))
		x.takes(11, in(epoch, report(1, 7, 3, 9)))
		x.sends(11, in(epoch, greeting(0)), in(epoch, greeting(2)))
		x.sends(14, in(epoch, greeting(0)), in(epoch, grant(1, 7, 5, 34)), in(epoch, greeting(2)))
	}
}

// TestRenew: what stays the same is granted again behind 4 ticks, whether the cell has it or not.
func TestRenew(t *testing.T) {
	for _, start := range []int{0, -30, 1000, last - 40, -last, last} {
		x := newPair(t, 1, start)
		x.do(node("m", 0, 4))
		x.do(work("a", 2))
		x.takes(start, all()...)
		mine := bind("a", "m", 2)
		x.sends(start, grant(0, 1, 1, start+20, mine), grant(1, 1, 1, start+20), grant(2, 1, 1, start+20))
		if start == last {
			x.sends(start + 4)
			x.sends(math.MaxInt)
			continue
		}
		for _, now := range []int{math.MinInt, start - 9, start - 1, start, start + 1, start + 2, start + 3} {
			x.sends(now)
		}
		x.sends(start+4, grant(0, 1, 2, start+24, mine), grant(1, 1, 2, start+24), grant(2, 1, 2, start+24))
		x.sends(start + 7)
		x.sends(start+9, grant(0, 1, 3, start+29, mine), grant(1, 1, 3, start+29), grant(2, 1, 3, start+29))
		x.sends(start + 10)
	}
}

// TestRenewAlone: when a grant was sent counts for each cell by itself.
func TestRenewAlone(t *testing.T) {
	x := begin(t, node("m", 0, 4), work("a", 2))
	x.takes(0, all()...)
	x.sends(0, grant(0, 1, 1, 20, bind("a", "m", 2)), grant(1, 1, 1, 20), grant(2, 1, 1, 20))
	x.do(scale("a", 3))
	x.sends(2, grant(0, 1, 2, 22, bind("a", "m", 3)))
	x.takes(3, report(2, 2, 0, 0))
	x.sends(3, grant(2, 2, 2, 23))
	x.sends(4, grant(1, 1, 2, 24))
	x.sends(5)
	x.sends(6, grant(0, 1, 3, 26, bind("a", "m", 3)))
	x.sends(7, grant(2, 2, 3, 27))
	x.sends(8, grant(1, 1, 3, 28))
}

// TestDown: nothing is placed on the nodes of a cell that is not up, nor on a cordoned one.
func TestDown(t *testing.T) {
	x := begin(t, node("m", 0, 4), node("n", 1, 4), node("o", 2, 4), work("a", 12))
	x.takes(0, all()...)
	x.sends(0, grant(0, 1, 1, 20, bind("a", "m", 4)), grant(1, 1, 1, 20, bind("a", "n", 4)), grant(2, 1, 1, 20, bind("a", "o", 4)))
	x.do(named(6, "o"))
	x.takes(1, report(1, 1, 1, 20, bind("a", "n", 4)), report(2, 1, 1, 20, bind("a", "o", 4)))
	x.sends(1, grant(2, 1, 2, 21))
	x.takes(4, report(1, 1, 1, 20, bind("a", "n", 4)), report(2, 1, 2, 21))
	x.do(named(7, "o"))
	x.sends(11, greeting(0), grant(1, 1, 2, 31, bind("a", "n", 4)), grant(2, 1, 3, 31, bind("a", "o", 4)))
	// What the first cell may be running is granted to nobody.
	x.do(scale("a", 8))
	x.takes(11, report(1, 1, 2, 31, bind("a", "n", 4)), report(2, 1, 3, 31, bind("a", "o", 4)))
	x.sends(15, greeting(0), grant(1, 1, 3, 31, bind("a", "n", 4)), grant(2, 1, 4, 31, bind("a", "o", 4)))
	x.takes(23, report(1, 1, 3, 31, bind("a", "n", 4)), report(2, 1, 4, 31, bind("a", "o", 4)))
	x.sends(23, greeting(0), grant(1, 1, 4, 31, bind("a", "n", 4)), grant(2, 1, 5, 31, bind("a", "o", 4)))
	x.sends(24, greeting(0))
	x.takes(24, report(1, 1, 4, 31, bind("a", "n", 4)))
	x.sends(27, greeting(0), grant(1, 1, 5, 47, bind("a", "n", 4)), grant(2, 1, 6, 47, bind("a", "o", 4)))
}

// TestCordonStays: a node of a cell that is up again is used, but a cordoned one isn't; State shows only what was ordered.
func TestCordonStays(t *testing.T) {
	x := begin(t, node("m", 0, 2), node("n", 0, 2), named(6, "n"), work("a", 4))
	x.sends(0, greeting(0), greeting(1), greeting(2))
	if s := x.p.State(); s.Nodes[0].Cordoned || !s.Nodes[1].Cordoned {
		t.Error(s)
	}
	x.takes(0, all()...)
	x.sends(0, grant(0, 1, 1, 20, bind("a", "m", 2)), grant(1, 1, 1, 20), grant(2, 1, 1, 20))
	x.do(named(7, "n"))
	x.sends(0, grant(0, 1, 2, 20, bind("a", "m", 2), bind("a", "n", 2)))
}

// TestEven: what is granted is even within a cell, and as much as can be, the most urgent first.
func TestEven(t *testing.T) {
	urgent := work("web", 3)
	urgent.Work.Prio = 5
	x := begin(t, node("m", 0, 4), node("n", 0, 4), node("o", 1, 1), work("a", 4))
	x.takes(0, all()...)
	x.sends(0, grant(0, 1, 1, 20, bind("a", "m", 2), bind("a", "n", 2)), grant(1, 1, 1, 20), grant(2, 1, 1, 20))
	x.do(urgent)
	x.do(named(6, "n"))
	x.takes(0, report(0, 1, 1, 20))
	l := x.step(0)
	if len(l) != 1 || countIn(l[0].Binds, "web") != 3 || countIn(l[0].Binds, "a") != 1 {
		t.Error(l)
	}
}

// TestFreed: what one cell lets go is granted to another one once the first one has told that it has let it go, or its lease is over.
func TestFreed(t *testing.T) {
	for _, told := range []bool{true, false} {
		x := begin(t, node("m", 0, 4), node("n", 1, 4), work("a", 4))
		x.takes(0, all()...)
		x.sends(0, grant(0, 1, 1, 20, bind("a", "m", 4)), grant(1, 1, 1, 20), grant(2, 1, 1, 20))
		x.do(named(6, "m"))
		x.sends(1, grant(0, 1, 2, 21))
		x.holds("a", 4, 0, 0)
		x.takes(2, report(0, 1, 1, 20, bind("a", "m", 4)))
		x.sends(2)
		if told {
			x.takes(3, report(0, 1, 2, 21))
			x.sends(3, grant(1, 1, 2, 23, bind("a", "n", 4)))
			continue
		}
		for now := 3; now <= 24; now++ {
			x.takes(now, report(0, 1, 1, 20, bind("a", "m", 4)), report(1, 1, x.m.cells[1].version, 0))
			l := x.step(now)
			for _, m := range l {
				if m.Cell == 1 && (countIn(m.Binds, "a") == 4) != (now >= 24) {
					t.Errorf("at %d: %v", now, m)
				}
			}
		}
		x.holds("a", 0, 4, 0)
	}
}

// TestTight: of a workload of which more may be running than are wanted, or of which that is unknown, nobody gets more than before or for longer.
func TestTight(t *testing.T) {
	x := begin(t, node("m", 0, 4), node("n", 1, 4), work("a", 6), work("b", 1))
	x.takes(0, report(0, 1, 5, 17, bind("a", "m", 2), bind("b", "m", 1)), report(1, 1, 5, 18, bind("a", "n", 3)))
	// Cell 2 is unknown.
	x.sends(0, grant(0, 1, 6, 17, bind("a", "m", 2), bind("b", "m", 1)), grant(1, 1, 6, 18, bind("a", "n", 3)), greeting(2))
	x.do(work("c", 2))
	x.sends(1, greeting(2))
	x.do(named(3, "b"))
	x.sends(1, grant(0, 1, 7, 17, bind("a", "m", 2)), greeting(2))
	x.do(named(3, "a"))
	x.sends(1, grant(0, 1, 8, 21), grant(1, 1, 7, 21), greeting(2))
	x.do(work("a", 6))
	x.sends(2, greeting(2))
	// Known, and free: but the first two may be running 2 and 3 still, where they are to have 4 and 2.
	x.takes(3, report(2, 1, 0, 0))
	x.sends(3, grant(0, 1, 9, 23, bind("a", "m", 3)), grant(1, 1, 8, 23, bind("a", "n", 2), bind("c", "n", 2)), grant(2, 1, 1, 23))
}

// settled is a placer in epoch 1 with a node in each cell, workloads a and b, and cells that have what they were sent.
func settled(t *testing.T) *pair {
	t.Helper()
	x := begin(t, node("m", 0, 4), node("n", 1, 4), node("o", 2, 4), work("a", 6), work("b", 5))
	x.takes(0, all()...)
	for now := range 3 {
		for _, m := range x.step(now) {
			m.Kind = 2
			x.takes(now, m)
		}
	}
	return x
}

// TestFreeBesideTight: a grant holds as long as before if one of its workloads is not free, and anew if all are; each cell by itself.
func TestFreeBesideTight(t *testing.T) {
	x := settled(t)
	x.holds("a", 4, 2, 0)
	x.do(scale("a", 5))
	l := x.step(4)
	for _, m := range l {
		want := 24
		if countIn(m.Binds, "a") > 0 {
			want = x.m.cells[m.Cell].sentUntil
			if want >= 24 {
				t.Errorf("%v", m)
			}
		}
		if m.Until != want {
			t.Errorf("%v; not until %d", m, want)
		}
	}
	if len(l) != 3 || countIn(l[2].Binds, "a") != 0 || countIn(l[2].Binds, "b") == 0 {
		t.Errorf("nothing is tight, or nothing free: %v", l)
	}
}

// TestSumIsWanted: as many as are wanted are free still, one more isn't.
func TestSumIsWanted(t *testing.T) {
	for held := 3; held <= 6; held++ {
		x := begin(t, node("m", 0, 4), node("n", 1, 4), work("a", 4))
		x.takes(0, report(0, 1, 3, 9, bind("a", "m", 2)), report(1, 1, 3, 9, bind("a", "n", held-2)), report(2, 1, 0, 0))
		l := x.step(0)
		until, has := l[0].Until, countIn(l[0].Binds, "a")+countIn(l[1].Binds, "a")
		if held <= 4 && (until != 20 || has != 4) || held > 4 && (until != 9 || has > 4) {
			t.Errorf("%d held: %v", held, l)
		}
	}
}

// TestLastIsKept: of a workload of which a cell may have less than it is to have, it keeps what it was sent last.
func TestLastIsKept(t *testing.T) {
	x := begin(t, node("m", 0, 4), node("n", 0, 4), node("o", 1, 4), work("a", 8))
	x.takes(0, report(0, 1, 1, 9, bind("a", "n", 3)), report(1, 1, 1, 9, bind("a", "o", 4)))
	// All of cell 2 is unknown: no more than 3 for the first one, and these on n as far as they are to be there.
	l := x.step(0)
	if len(l) != 3 || countIn(l[0].Binds, "a") != 3 || l[0].Until != 9 || l[1].Until != 9 {
		t.Error(l)
	}
	if on := l[0].Binds[len(l[0].Binds)-1]; on.Node != "n" || on.Count < 2 {
		t.Error(l)
	}
}

// L4: what is true of each Step; all tests ask for it.

// promise is what there is ahead of a Step: which workloads are wanted how often and held by the cells (-1 for unknown), and what each cell was sent last.
type promise struct {
	state api.State
	held  map[string]int
	sent  [3][]api.Bind
	until [3]int
}

// promised is that at a time, when leases have run out.
func (x *pair) promised(now int) promise {
	p := promise{state: x.p.State(), held: map[string]int{}}
	for c := range 3 {
		if x.m.failed == api.OK {
			x.m.cells[c].pass(now)
		}
		p.sent[c], p.until[c] = x.m.cells[c].sent, x.m.cells[c].sentUntil
	}
	for _, w := range p.state.Works {
		for c := range 3 {
			h := x.m.cells[c].held(w.ID)
			if h < 0 || p.held[w.ID] < 0 {
				p.held[w.ID] = -1
			} else {
				p.held[w.ID] += h
			}
		}
	}
	return p
}

// isKept tells if a Step that sent these messages did what no Step does.
func (p promise) isKept(x *pair, l []api.Message) {
	x.t.Helper()
	for i, m := range l {
		if !msg.Right(m) || m.Kind != 1 || i > 0 && m.Cell <= l[i-1].Cell {
			x.fail(l, "messages, one a cell")
		}
		if !place.Fits(api.Problem{Works: p.state.Works, Nodes: p.state.Nodes}, m.Binds) {
			x.fail(m, "what fits State")
		}
		for _, b := range m.Binds {
			if p.isTight(b.Work) && (m.Until > p.until[m.Cell] || countIn(m.Binds, b.Work) > countIn(p.sent[m.Cell], b.Work)) {
				x.fail(m, "no more than before, and no longer")
			}
		}
	}
	for _, w := range p.state.Works {
		sum, unknown := 0, false
		for c := range 3 {
			h := x.p.Held(c, w.ID)
			sum, unknown = sum+h, unknown || h < 0
		}
		if unknown != (p.held[w.ID] < 0) || !unknown && sum > max(w.Want, p.held[w.ID]) {
			x.fail(fmt.Sprintf("%d of %s are held", sum, w.ID), p.held[w.ID])
		}
	}
}

// isTight reports whether more of a workload may be running than are wanted.
func (p promise) isTight(id string) bool {
	for _, w := range p.state.Works {
		if w.ID == id {
			return p.held[id] < 0 || p.held[id] > w.Want
		}
	}
	return true
}

// Many calls, by the words.

// smallReports are all of cell 0 with small numbers; the placer is in epoch 2.
func smallReports() []api.Message {
	var l []api.Message
	for boot := range 3 {
		for epoch := 1; epoch <= 3; epoch++ {
			for version := range 3 {
				m := in(epoch, report(0, boot, version, 5+10*version))
				for k := range (boot + epoch + version) % 3 {
					m.Binds = append(m.Binds, bind("a", []string{"m", "n"}[k], 1+(version+boot)%3))
				}
				l = append(l, m)
			}
		}
	}
	return l
}

// TestAllSmallLists: each list of three reports, all else known, and a Step behind it.
func TestAllSmallLists(t *testing.T) {
	t.Parallel()
	took := 0
	for i, first := range smallReports() {
		for j, second := range smallReports() {
			for k, third := range smallReports() {
				x := newPair(t, 2, 0)
				x.do(node("m", 0, 2))
				x.do(node("n", 1, 2))
				x.do(work("a", 3))
				for _, m := range []api.Message{first, in(2, report(1, 1, 0, 0)), in(2, report(2, 1, 0, 0)), second, third} {
					if x.receive(1, m) {
						took++
					}
				}
				if (i+j+k)%3 == 0 {
					x.step(3)
					x.step(12)
				}
			}
		}
	}
	if took < 60000 {
		t.Errorf("only %d taken", took)
	}
}

// TestAllSmallListsWithSteps: each list of two reports, with a Step behind each.
func TestAllSmallListsWithSteps(t *testing.T) {
	t.Parallel()
	for _, first := range smallReports() {
		for _, second := range smallReports() {
			for _, others := range []bool{false, true} {
				x := newPair(t, 2, 0)
				x.do(node("m", 0, 2))
				x.do(node("n", 1, 2))
				x.do(work("a", 3))
				if others {
					x.takes(0, in(2, report(1, 1, 0, 0)), in(2, report(2, 1, 0, 0)))
				}
				x.receive(1, first)
				x.step(2)
				x.receive(3, second)
				x.step(4)
				x.receive(5, in(2, report(1, 1, 1, 0)))
				x.step(6)
			}
		}
	}
}

// randomOp is an operation on few workloads and nodes; most of them can be.
func randomOp(random *rand.Rand) api.Op {
	id := []string{"a", "b", "c", "d", "web"}[random.Intn(5)]
	place := random.Intn(7)
	machine := []string{"m", "n", "o", "p", "q", "r", "s"}[place]
	selector := []string{"", "", "", "disk", "!gpu", "zone=a"}[random.Intn(6)]
	labels := []string{"", "disk=ssd", "disk=ssd,zone=a", "gpu=1"}[random.Intn(4)]
	switch random.Intn(12) {
	case 0, 1, 2, 3:
		return api.Op{Kind: 1, Work: api.Work{ID: id, Want: random.Intn(10), Prio: random.Intn(3), PerNode: 1 + random.Intn(4), PerCell: 1 + random.Intn(9), Selector: selector}}
	case 4:
		return scale(id, random.Intn(11))
	case 5:
		return named(3, id)
	case 6, 7, 8:
		return api.Op{Kind: 4, Node: api.Node{ID: machine, Cell: place % 3, Slots: random.Intn(5), Labels: labels, Cordoned: random.Intn(8) == 0}}
	case 9:
		return named(5+random.Intn(2), machine)
	case 10:
		return named(7, machine)
	}
	return api.Op{Kind: random.Intn(10), ID: id, Want: random.Intn(20)}
}

// randomReport is one that need not be of any cell: its numbers are near those that count.
func randomReport(random *rand.Rand, x *pair, now int) api.Message {
	m := api.Message{Kind: 2, Cell: random.Intn(3), Boot: random.Intn(3), Epoch: x.m.state.Epoch, Version: random.Intn(4), Until: now + random.Intn(50) - 20}
	if c := x.m.cells[m.Cell]; random.Intn(3) > 0 {
		m.Version = c.version
		if len(c.boot) > 0 {
			m.Boot = max(0, c.boot[0]+random.Intn(12)/9-random.Intn(12)/10)
		}
	}
	m.Epoch += random.Intn(12)/10 - random.Intn(12)/10
	often := []int{8, 20, 1000, 1000}[random.Intn(4)]
	for _, w := range []string{"a", "b", "c", "web"} {
		for _, n := range []string{"m", "n", "o", "p", "q", "r"} {
			if random.Intn(often) == 0 {
				m.Binds = append(m.Binds, bind(w, n, 1+random.Intn(3)))
			}
		}
	}
	switch random.Intn(40) {
	case 0:
		m.Kind = random.Intn(4)
	case 1:
		m.Cell = random.Intn(6) - 2
	case 2:
		m.Version = []int{last, last - 1, last + 1}[random.Intn(3)]
	case 3:
		m.Boot = []int{last, -1, 1 << 20}[random.Intn(3)]
	case 4:
		m.Until = []int{lastUntil, -lastUntil, last, last + 20, lastUntil + 1}[random.Intn(5)]
	case 5:
		m.Binds = append(m.Binds, bind("z", "z", 1000+random.Intn(2)))
	}
	return m
}

// randomTimes are ways in which the time goes on.
func randomTimes() []func(random *rand.Rand, now int) int {
	return []func(random *rand.Rand, now int) int{
		func(random *rand.Rand, now int) int { return now + random.Intn(2) },
		func(random *rand.Rand, now int) int { return now + random.Intn(5) },
		func(random *rand.Rand, now int) int { return now + random.Intn(12) - 3 },
		func(random *rand.Rand, now int) int { return now + random.Intn(3)*random.Intn(30) },
		func(random *rand.Rand, now int) int { return last - 20 + random.Intn(40) },
		func(random *rand.Rand, now int) int { return -last - 20 + random.Intn(60) },
		func(random *rand.Rand, now int) int {
			return []int{math.MinInt, -last, -1, 0, 25, last, math.MaxInt}[random.Intn(7)]
		},
	}
}

// TestRandom: long lists of calls, with reports that no cell need have sent, in all kinds of times.
func TestRandom(t *testing.T) {
	t.Parallel()
	took, sent := 0, 0
	for seed := range int64(700) {
		random := rand.New(rand.NewSource(seed))
		times := randomTimes()[seed%7]
		now := times(random, 0)
		x := newPair(t, 1+random.Intn(3), now)
		for range 15 {
			x.do(randomOp(random))
		}
		for range 60 {
			now = times(random, now)
			switch random.Intn(8) {
			case 0:
				x.do(randomOp(random))
			case 1, 2, 3, 4:
				if x.receive(now, randomReport(random, x, now)) {
					took++
				}
			default:
				for _, m := range x.step(now) {
					sent += countAll(m.Binds)
				}
			}
			if random.Intn(150) == 0 {
				x.restart(now)
			}
		}
	}
	if took < 8000 || sent < 8000 {
		t.Errorf("only %d taken, only %d replicas granted", took, sent)
	}
}

// countAll is how many replicas binds have.
func countAll(l []api.Bind) int {
	sum := 0
	for _, b := range l {
		sum += b.Count
	}
	return sum
}

// TestPowerAnywhere: random calls, where the disk's power goes off at some time: from then on nothing is sent.
func TestPowerAnywhere(t *testing.T) {
	for seed := range int64(200) {
		random := rand.New(rand.NewSource(seed))
		x := newPair(t, 1, 0)
		x.d.Arm(1 + random.Intn(40))
		for now := range 60 {
			o := randomOp(random)
			before := x.p.State()
			got := x.p.Do(o)
			if x.d.Off() && x.m.failed == api.OK {
				x.m.failed = api.ErrDiskPower
				if got == api.OK { // the power went off behind the operation
					x.m.state = x.p.State()
				} else if !sameState(x.p.State(), before) {
					t.Errorf("%v: %v", before, x.p.State())
				}
			} else if want := x.m.do(o); got != want {
				t.Fatalf("%v: %d; not %d", o, got, want)
			}
			x.receive(now, randomReport(random, x, now))
			x.step(now)
		}
	}
}

// L4: cells that run what they are granted, a network that loses, doubles and delays messages, and clocks that deviate.

// sim is all of it.
type sim struct {
	*pair
	random  *rand.Rand
	time    int
	sites   [3]*cell.Cell // nil while it is down
	boots   [3]int
	transit []api.Message
	wanted  []moment
	most    int // of replicas that ran together
}

// moment is what was wanted, and the last time at which it was.
type moment struct {
	state api.State
	until int
}

func newSim(t *testing.T, seed int64) *sim {
	t.Helper()
	s := &sim{pair: newPair(t, 1, 0), random: rand.New(rand.NewSource(seed))}
	for c := range 3 {
		s.startCell(c)
	}
	for i, id := range []string{"m", "n", "o", "p"} {
		s.operate(node(id, i%3, 2+s.random.Intn(3)))
	}
	for _, id := range []string{"a", "b", "c"} {
		s.operate(work(id, 1+s.random.Intn(8)))
	}
	for range 8 {
		s.operate(randomOp(s.random))
	}
	return s
}

// reading is what a clock shows.
func (s *sim) reading() int { return s.time + s.random.Intn(5) - 2 }

func (s *sim) startCell(c int) {
	s.boots[c]++
	s.sites[c] = cell.New(c, s.boots[c])
}

// operate performs an operation, and keeps what was wanted till now.
func (s *sim) operate(o api.Op) {
	s.t.Helper()
	before := s.p.State()
	if s.do(o) == api.OK {
		s.wanted = append(s.wanted, moment{before, s.time})
	}
}

// lately is what was wanted in the last 24 ticks.
func (s *sim) lately() []api.State {
	l := []api.State{s.p.State()}
	for _, m := range s.wanted {
		if m.until >= s.time-24 {
			l = append(l, m.state)
		}
	}
	return l
}

// deliver lets a message come to whom it is for.
func (s *sim) deliver(m api.Message) {
	s.t.Helper()
	if m.Kind == 2 {
		s.receive(s.reading(), m)
	} else if c := s.sites[m.Cell]; c != nil {
		c.Receive(m)
	}
}

// act does something of what may happen.
func (s *sim) act() {
	s.t.Helper()
	c := s.random.Intn(3)
	switch n := s.random.Intn(100); {
	case n < 12:
		s.time += 1 + s.random.Intn(2)
	case n < 24:
		s.transit = append(s.transit, s.step(s.reading())...)
	case n < 44:
		if s.sites[c] != nil {
			s.transit = append(s.transit, s.sites[c].Report())
		}
	case n < 92 && len(s.transit) > 0:
		i := s.random.Intn(len(s.transit))
		if s.random.Intn(3) > 0 {
			i = 0
		}
		m := s.transit[i]
		if s.random.Intn(8) > 0 { // or else it comes again
			s.transit = slices.Delete(s.transit, i, i+1)
		}
		if s.random.Intn(10) > 0 { // or else it is lost
			s.deliver(m)
		}
	case n < 96:
		s.operate(randomOp(s.random))
	case n == 96 && s.random.Intn(2) == 0:
		s.sites[c] = nil
	case n == 97 || s.sites[c] == nil:
		s.startCell(c)
	case n == 98 && s.random.Intn(3) == 0:
		s.restart(s.reading())
	}
}

// ran is what the cells may be running, by clocks that show least.
func (s *sim) ran() [3][]api.Bind {
	var all [3][]api.Bind
	for c, site := range s.sites {
		if site != nil {
			all[c] = site.Running(s.time - 2)
		}
	}
	return all
}

// isModest tells if more runs than was wanted lately.
func (s *sim) isModest() {
	s.t.Helper()
	lately, ran := s.lately(), s.ran()
	total := 0
	for _, w := range []string{"a", "b", "c", "d", "web"} {
		sum, most := 0, 0
		for _, l := range ran {
			sum += countIn(l, w)
		}
		for _, state := range lately {
			for _, other := range state.Works {
				if other.ID == w {
					most = max(most, other.Want)
				}
			}
		}
		if sum > most {
			s.fail(fmt.Sprintf("at %d %d of %s run: %v", s.time, sum, w, ran), most)
		}
		total += sum
	}
	for _, l := range ran {
		fits := len(l) == 0 || slices.ContainsFunc(lately, func(state api.State) bool {
			return place.Fits(api.Problem{Works: state.Works, Nodes: state.Nodes}, l)
		})
		if !fits {
			s.fail(fmt.Sprintf("at %d %v run", s.time, l), "what was wanted")
		}
	}
	s.most = max(s.most, total)
}

// TestNeverTooMuch: whatever is lost, doubled, late or started again, no more runs than was wanted in the last 24 ticks.
func TestNeverTooMuch(t *testing.T) {
	t.Parallel()
	ran := 0
	for seed := range int64(100) {
		s := newSim(t, seed)
		for range 400 {
			s.act()
			s.isModest()
		}
		ran += s.most
	}
	if ran < 600 {
		t.Errorf("only %d ran", ran)
	}
}

// round is a fair one: all messages come, then the cells report and the placer steps.
func (s *sim) round() {
	s.t.Helper()
	s.time++
	all := s.transit
	s.transit = nil
	for _, m := range all {
		s.deliver(m)
	}
	for _, site := range s.sites {
		if site != nil {
			s.transit = append(s.transit, site.Report())
		}
	}
	s.transit = append(s.transit, s.step(s.reading())...)
	s.isModest()
}

// best is how many replicas of each workload can run in the cells that are up.
func (s *sim) best() []int {
	state := s.p.State()
	p := api.Problem{Works: state.Works, Nodes: state.Nodes}
	for i, n := range p.Nodes {
		if s.sites[n.Cell] == nil {
			p.Nodes[i].Cordoned = true
		}
	}
	l, _ := place.Solve(p, nil)
	return place.Counts(p, l)
}

// settle lets rounds go by, and tells if what runs then is not the best.
func (s *sim) settle() [3][]api.Bind {
	s.t.Helper()
	for range 64 {
		s.round()
	}
	ran, best := s.ran(), s.best()
	for i, w := range s.p.State().Works {
		sum := 0
		for _, l := range ran {
			sum += countIn(l, w.ID)
		}
		if sum != best[i] {
			s.fail(fmt.Sprintf("%d of %s run: %v", sum, w.ID, ran), best[i])
		}
	}
	return ran
}

// stays tells if anything else runs, or is granted, in some further rounds.
func (s *sim) stays(ran [3][]api.Bind) {
	s.t.Helper()
	for range 12 {
		s.round()
		for c, l := range s.ran() {
			if !slices.Equal(l, ran[c]) {
				s.fail(l, ran[c])
			}
		}
		for _, m := range s.transit {
			if m.Kind == 1 && m.Version > 0 && !slices.Equal(m.Binds, ran[m.Cell]) {
				s.fail(m, ran[m.Cell])
			}
		}
	}
}

// TestSteady: if all cells report what they have and nothing else changes, successive Steps grant the same; that is as much as can be, and stays where it is when the placer is started again.
func TestSteady(t *testing.T) {
	t.Parallel()
	many, restarts := 0, 0
	for seed := range int64(60) {
		s := newSim(t, seed)
		for range 20 + s.random.Intn(100) {
			s.act()
		}
		for c := range 3 {
			if s.sites[c] == nil && s.random.Intn(2) == 0 {
				s.startCell(c)
			}
		}
		ran := s.settle()
		s.stays(ran)
		for _, l := range ran {
			many += countAll(l)
		}
		s.restart(s.reading())
		if slices.Contains(s.sites[:], nil) {
			// What this one may be running is not known to the new placer.
			s.stays(s.settle())
			continue
		}
		restarts++
		for range 64 {
			s.round()
			for c, l := range s.ran() {
				if !slices.Equal(l, ran[c]) {
					s.fail(l, ran[c])
				}
			}
		}
		s.stays(ran)
	}
	if many < 400 || restarts < 30 {
		t.Errorf("only %d ran, only %d starts", many, restarts)
	}
}

// TestLate: reports that come late or again, from earlier boots or epochs, change nothing of what is granted then.
func TestLate(t *testing.T) {
	t.Parallel()
	late := 0
	for seed := range int64(40) {
		s := newSim(t, seed+1000)
		var old []api.Message
		for i := range 90 {
			if i%10 == 9 {
				s.startCell(s.random.Intn(3))
			}
			if i == 20 || i == 50 {
				s.restart(s.reading())
			}
			s.round()
			for _, m := range s.transit {
				if m.Kind == 2 {
					old = append(old, m)
				}
			}
		}
		want := s.settle()
		for range 30 {
			s.round()
			for range 5 {
				m := old[s.random.Intn(len(old))]
				if m.Epoch < s.m.state.Epoch || m.Boot < s.boots[m.Cell] {
					late++
				}
				if s.receive(s.reading(), m) != (m.Epoch == s.m.state.Epoch && m.Boot == s.boots[m.Cell]) {
					s.fail(m, "what is told already")
				}
			}
			for c, l := range s.ran() {
				if !slices.Equal(l, want[c]) {
					s.fail(l, want[c])
				}
			}
		}
	}
	if late < 1000 {
		t.Errorf("only %d were late", late)
	}
}

// R1.

// TestExtremes: times and cells from the least to the greatest, in each call.
func TestExtremes(t *testing.T) {
	times := []int{math.MinInt, -lastUntil, -last - 1, -last, -last + 1, -1, 0, 1, last - 1, last, last + 1, lastUntil, math.MaxInt}
	for _, start := range times {
		for _, second := range times {
			x := newPair(t, 1, start)
			x.do(node("m", 0, 4))
			x.do(work("a", 3))
			x.receive(second, report(0, 1, 4, -lastUntil, bind("a", "m", 1)))
			x.receive(start, report(1, 0, last-1, lastUntil))
			x.receive(start, report(2, last, 0, 0))
			x.step(second)
			x.do(scale("a", 4))
			for _, third := range times {
				x.step(third)
			}
			for _, c := range []int{math.MinInt, -1, 0, 2, 3, math.MaxInt} {
				x.p.Up(second, c)
				x.p.Seen(c)
				x.p.Held(c, "a")
			}
		}
	}
}

// TestHugeReports: lists and texts of any length, which no cell could have sent.
func TestHugeReports(t *testing.T) {
	long := strings.Repeat("a", 1<<22)
	for _, l := range [][]api.Bind{make([]api.Bind, 1<<20), slices.Repeat([]api.Bind{bind("a", "n", 1)}, 1<<20), {bind(long, "n", 1)}, {bind("a", long, 1)}, numbered(65)} {
		x := begin(t)
		if x.p.Receive(0, report(0, 1, 0, 0, l...)) {
			t.Errorf("%d binds are taken", len(l))
		}
		x.isSo(0)
		x.takes(0, report(0, 1, 0, 0, numbered(64)...))
		if x.p.Held(0, "workloada") != 16000-120 {
			t.Errorf("%d are held", x.p.Held(0, "workloada"))
		}
		x.step(0)
	}
}

// TestFull: as many workloads and nodes as there may be, and a cell that has everywhere something of all.
func TestFull(t *testing.T) {
	x := begin(t)
	var l []api.Bind
	for i := range 8 {
		id := "id" + strconv.Itoa(i)
		x.do(node(id, i%3, 4))
		x.do(api.Op{Kind: 1, Work: api.Work{ID: id, Want: 16, Prio: i, PerNode: 16, PerCell: 16, Selector: "!gpu"}})
		for k := range 8 {
			l = append(l, bind(id, "id"+strconv.Itoa(k), 1000))
		}
	}
	for now := range 60 {
		for c := range 3 {
			x.receive(now, report(c, 1+now/40, x.m.cells[c].version, now, l...))
		}
		x.step(now)
	}
}

// TestManyCalls: a placer lasts, however often it is called.
func TestManyCalls(t *testing.T) {
	x := begin(t, node("m", 0, 4), work("a", 4))
	p, sent := x.p, 0
	var has [3]int
	for now := range 20000 {
		for c := range 3 {
			if !p.Receive(now, report(c, 1+now/1000, has[c], now)) {
				t.Fatal(now)
			}
		}
		for _, m := range p.Step(now) {
			has[m.Cell] = m.Version
			sent++
		}
	}
	if sent < 15000 || has[2] < 5000 || p.Held(0, "a") != 4 {
		t.Error(sent, has, p.Held(0, "a"))
	}
}

// R3.

// lent returns a text whose memory may be changed.
func lent(s string) (string, []byte) {
	memory := []byte(s)
	return unsafe.String(unsafe.SliceData(memory), len(memory)), memory
}

// TestArgumentsNotKept: a report and an operation may be changed once they are taken, also their texts' memory.
func TestArgumentsNotKept(t *testing.T) {
	x := begin(t, node("m", 0, 4))
	id, memoryID := lent("abc")
	selector, memorySelector := lent("!gpu")
	o := work(id, 3)
	o.Work.Selector = selector
	if e := x.p.Do(o); e != api.OK {
		t.Error(e)
	}
	clear(memoryID)
	clear(memorySelector)
	if w := x.p.State().Works; len(w) != 1 || w[0].ID != "abc" || w[0].Selector != "!gpu" {
		t.Error(w)
	}
	name, memoryWork := lent("abc")
	on, memoryNode := lent("m")
	l := []api.Bind{bind(name, on, 2), bind("web", "n", 1)}
	want := slices.Clone(l)
	want[0] = bind("abc", "m", 2)
	if !x.p.Receive(0, report(0, 1, 0, 30, l...)) {
		t.Error("not taken")
	}
	l[1] = bind("x", "y", 9)
	clear(memoryWork)
	clear(memoryNode)
	if m, _ := x.p.Seen(0); !slices.Equal(m.Binds, want) {
		t.Errorf("Seen: %v", m)
	}
	if x.p.Held(0, "abc") != 2 || x.p.Held(0, "web") != 1 || x.p.Held(0, "x") != 0 {
		t.Error("Held")
	}
	if got := x.p.Step(0); len(got) != 3 || !slices.Equal(got[0].Binds, want[:1]) || got[0].Until != 30 {
		t.Errorf("Step: %v", got)
	}
}

// TestHeldKeepsNothing: the name that is asked for may be changed too.
func TestHeldKeepsNothing(t *testing.T) {
	x := begin(t)
	x.takes(0, report(0, 1, 0, 30, bind("abc", "m", 2)))
	name, memory := lent("xyz")
	if x.p.Held(0, name) != 0 {
		t.Error("held")
	}
	copy(memory, "abc")
	if x.p.Held(0, name) != 2 || x.p.Held(0, "xyz") != 0 {
		t.Error("not held")
	}
	clear(memory)
	if x.p.Held(0, "abc") != 2 {
		t.Error("not held any more")
	}
}

// TestArgumentsNotChanged: neither the binds nor what is behind their length, whatever follows.
func TestArgumentsNotChanged(t *testing.T) {
	whole := []api.Bind{bind("a", "m", 1), bind("a", "n", 2), bind("b", "m", 3), bind("b", "o", 1), bind("spare", "o", 7), bind("", "", -1)}
	before := slices.Clone(whole)
	x := begin(t, node("m", 0, 4), node("n", 1, 4), work("a", 5), work("b", 2))
	for n := range len(whole) {
		for c := range 3 {
			for _, m := range []api.Message{report(c, n, 2*n, 30, whole[:n]...), report(c, n, 2*n+1, 30)} {
				m.Binds = whole[:n]
				x.p.Receive(n, m)
				x.p.Seen(c)
			}
		}
		x.p.Step(n)
		x.p.Step(n)
	}
	if !slices.Equal(whole, before) {
		t.Errorf("changed: %v", whole)
	}
}

// answers are the lists of binds that a placer answers.
func answers(p *placer.Placer, now int) [][]api.Bind {
	var all [][]api.Bind
	for range 2 {
		for c := range 3 {
			m, _ := p.Seen(c)
			all = append(all, m.Binds)
		}
	}
	for _, m := range p.Step(now) {
		all = append(all, m.Binds)
	}
	return all
}

// told is a placer whose cells have told much.
func told(t *testing.T) *pair {
	t.Helper()
	x := begin(t, node("m", 0, 4), node("n", 1, 4), node("o", 2, 4), node("p", 2, 4), work("a", 5), work("b", 9))
	x.takes(0, report(0, 1, 0, 30, bind("a", "m", 2), bind("b", "m", 2)), report(1, 1, 0, 30, bind("b", "n", 1)), report(2, 1, 0, 30, bind("a", "o", 2), bind("b", "p", 3)))
	return x
}

// TestAnswersApart: an answer may be changed and extended without changing the placer or another answer.
func TestAnswersApart(t *testing.T) {
	x, twin := told(t), told(t)
	for now := 0; now < 40; now += 4 {
		got, want := answers(x.p, now), answers(twin.p, now)
		for i := range got {
			if !slices.Equal(got[i], want[i]) {
				t.Fatalf("at %d: answer %d is %v; not %v", now, i, got[i], want[i])
			}
			whole := got[i][:cap(got[i])]
			for k := range whole {
				whole[k] = bind("z", "z", 9)
			}
		}
		s := x.p.State()
		clear(s.Works[:cap(s.Works)])
		clear(s.Nodes[:cap(s.Nodes)])
		for _, p := range []*placer.Placer{x.p, twin.p} {
			p.Receive(now, report(0, 1, now/4, 0))
			p.Receive(now, report(1, 2+now, 0, 0, bind("b", "n", 1)))
			p.Receive(now, report(2, 1, 0, 0))
		}
	}
	if got, want := x.p.State(), twin.p.State(); !sameState(got, want) {
		t.Errorf("%v; not %v", got, want)
	}
}

// TestMessagesApart: the list of messages may be changed and extended too.
func TestMessagesApart(t *testing.T) {
	x, twin := told(t), told(t)
	for now := 0; now < 40; now += 4 {
		got, want := x.p.Step(now), twin.p.Step(now)
		if !slices.EqualFunc(got, want, same) {
			t.Fatalf("at %d: %v; not %v", now, got, want)
		}
		clear(got[:cap(got)])
		for _, p := range []*placer.Placer{x.p, twin.p} {
			p.Receive(now, report(1, 1, now/4, 30))
		}
	}
}

// TestTextsApart: no two answers have the memory of a text in common, nor one with what was received.
func TestTextsApart(t *testing.T) {
	x := begin(t, node("m", 0, 4), work("a", 3), work("b", 1))
	given := []api.Message{report(0, 1, 0, 30, bind("a", "m", 2)), report(1, 1, 0, 30, bind(strings.Clone("a"), "n", 1)), report(2, 1, 0, 0)}
	x.takes(0, given...)
	var texts []string
	seen := map[*byte]bool{}
	add := func(l []api.Bind) {
		for _, b := range l {
			texts = append(texts, b.Work, b.Node)
		}
	}
	add(given[0].Binds)
	for now := 0; now < 12; now += 4 {
		for _, l := range answers(x.p, now) {
			add(l)
		}
	}
	for range 2 {
		s := x.p.State()
		texts = append(texts, s.Works[0].ID, s.Works[1].ID, s.Nodes[0].ID)
	}
	for _, s := range texts {
		if seen[unsafe.StringData(s)] {
			t.Errorf("%q is in the memory of another answer", s)
		}
		seen[unsafe.StringData(s)] = true
	}
}

// TestAnswersLast: an answer stays, whatever the placer does afterwards.
func TestAnswersLast(t *testing.T) {
	x, twin := told(t), told(t)
	got, want := answers(x.p, 0), answers(twin.p, 0)
	for now := range 60 {
		for c := range 3 {
			x.p.Receive(now, report(c, 2+now, now, now, bind("a", "q", 1+now)))
		}
		x.p.Do(scale("a", now%7))
		x.p.Step(now)
	}
	for i := range got {
		if !slices.Equal(got[i], want[i]) {
			t.Errorf("answer %d: %v; not %v", i, got[i], want[i])
		}
	}
}

// R4.

// TestPlacersApart: what one placer is told is nothing to another one, and the same calls have the same answers.
func TestPlacersApart(t *testing.T) {
	for seed := range int64(60) {
		random := rand.New(rand.NewSource(seed))
		x, twin, other := newPair(t, 1, 0), newPair(t, 1, 0), newPair(t, 1, 3)
		for now := range 40 {
			o, m := randomOp(random), randomReport(random, x, now)
			x.do(o)
			twin.do(o)
			other.do(randomOp(random))
			x.receive(now, m)
			twin.receive(now, m)
			other.receive(now, randomReport(random, other, now))
			got, want := x.step(now), twin.step(now)
			if !slices.EqualFunc(got, want, same) {
				t.Fatalf("seed %d: %v; not %v", seed, got, want)
			}
			other.step(now)
		}
	}
}

// TestAsked: Up, Seen, Held and State change nothing, whenever and however often they are asked.
func TestAsked(t *testing.T) {
	ask := func(p *placer.Placer) {
		for _, now := range []int{math.MinInt, -1, 0, 10, 100, math.MaxInt} {
			for c := -1; c < 4; c++ {
				p.Up(now, c)
				p.Seen(c)
				p.Held(c, "a")
				p.Held(c, "q")
			}
			p.State()
		}
	}
	for seed := range int64(20) {
		random := rand.New(rand.NewSource(seed))
		x := newPair(t, 1, 0)
		asked, left := placer.New(opened(t, disk.New()), 0), placer.New(opened(t, disk.New()), 0)
		for now := range 60 {
			o, m := randomOp(random), randomReport(random, x, now)
			x.receive(now, m)
			ask(asked)
			if e := asked.Do(o); e != left.Do(o) {
				t.Fatalf("%v: %d", o, e)
			}
			ask(asked)
			if took := asked.Receive(now, m); took != left.Receive(now, m) {
				t.Fatalf("%v: %v", m, took)
			}
			ask(asked)
			if got, want := asked.Step(now), left.Step(now); !slices.EqualFunc(got, want, same) {
				t.Fatalf("seed %d: %v; not %v", seed, got, want)
			}
		}
	}
}
