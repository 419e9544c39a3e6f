package cell_test

import (
	"fmt"
	"math"
	"math/rand"
	"regexp"
	"slices"
	"strconv"
	"strings"
	"testing"
	"unsafe"

	"billet/api"
	"billet/cell"
	"billet/msg"
)

const (
	last      = 1099511627776 // the greatest Boot, Epoch and Version, and the greatest time of a lease: 2^40
	lastUntil = 2199023255552 // the greatest Until; the least is its negative
)

// The chapter's words, anew.

// model is a cell: what it has, each number by itself.
type model struct {
	cell, boot, epoch, version, until int
	binds                             []api.Bind
}

// receive is what H2 says of Receive.
func (c *model) receive(m api.Message) bool {
	if !isValid(m) || m.Kind != api.KindGrant || m.Cell != c.cell {
		return false
	}
	newEpoch := m.Epoch > c.epoch
	newVersion := m.Epoch == c.epoch && m.Version > c.version
	switch {
	case m.Version == 0 && newEpoch:
		c.epoch = m.Epoch
		c.version = 0
	case m.Version != 0 && m.Boot == c.boot && (newEpoch || newVersion):
		c.epoch = m.Epoch
		c.version, c.until, c.binds = m.Version, m.Until, slices.Clone(m.Binds)
	default:
		return false
	}
	return true
}

// report and running are what H1 says of Report and Running.
func (c *model) report() api.Message {
	return api.Message{Kind: 2, Cell: c.cell, Boot: c.boot, Epoch: c.epoch, Version: c.version, Until: c.until, Binds: c.binds}
}

func (c *model) running(now int) []api.Bind {
	if limited(now) < limited(c.until) {
		return c.binds
	}
	return nil
}

// limited is the time as which chapter 14 counts an argument.
func limited(time int) int {
	switch {
	case time < -last:
		return -last
	case time > last:
		return last
	}
	return time
}

func isBetween(x, low, high int) bool { return low <= x && x <= high }

var name = regexp.MustCompile(`^[a-z0-9]{1,12}$`)

// isValid is chapter 16's valid message.
func isValid(m api.Message) bool {
	for i, b := range m.Binds {
		if !name.MatchString(b.Work) || !name.MatchString(b.Node) || !isBetween(b.Count, 1, 1000) {
			return false
		}
		if i > 0 && (m.Binds[i-1].Work > b.Work || m.Binds[i-1].Work == b.Work && m.Binds[i-1].Node >= b.Node) {
			return false
		}
	}
	times := isBetween(m.Boot, 0, last) && isBetween(m.Epoch, 0, last) && isBetween(m.Version, 0, last)
	return isBetween(m.Kind, 1, 2) && isBetween(m.Cell, 0, 2) && times && isBetween(m.Until, -lastUntil, lastUntil) && len(m.Binds) <= 64
}

// same reports whether two messages are equal.
func same(a, b api.Message) bool {
	return a.Kind == b.Kind && a.Cell == b.Cell && a.Boot == b.Boot && a.Epoch == b.Epoch && a.Version == b.Version && a.Until == b.Until && slices.Equal(a.Binds, b.Binds)
}

// moments are readings at which a lease may begin or cease to hold.
func moments(until int) []int {
	return []int{math.MinInt, -lastUntil, -last - 1, -last, -5, 0, until - 1, until, until + 1, last - 1, last, last + 1, math.MaxInt}
}

// isSo tells if a cell does not answer what the words say, and reports whether it does.
func isSo(t *testing.T, c *cell.Cell, want *model) bool {
	t.Helper()
	if got := c.Report(); !same(got, want.report()) {
		t.Errorf("Report is %v; not %v", got, want.report())
		return false
	}
	for _, now := range moments(want.until) {
		if got := c.Running(now); !slices.Equal(got, want.running(now)) {
			t.Errorf("Running(%d) of %v is %v; not %v", now, want.report(), got, want.running(now))
			return false
		}
	}
	return true
}

// newPair returns a new cell, and what the words say of it.
func newPair(number, boot int) (*cell.Cell, *model) {
	return cell.New(number, boot), &model{cell: number, boot: boot}
}

// checkAll lets a new cell receive messages, holds what it answers behind each against the chapter's words, and returns how many it took.
func checkAll(t *testing.T, number, boot int, messages ...api.Message) int {
	t.Helper()
	c, want := newPair(number, boot)
	took := 0
	for k, m := range messages {
		got, right := c.Receive(m), want.receive(m)
		if got != right || !isSo(t, c, want) {
			t.Fatalf("New(%d, %d): the last of %v: %v", number, boot, messages[:k+1], got)
		}
		if got {
			took++
		}
	}
	return took
}

// Messages.

func bind(work, node string, count int) api.Bind {
	return api.Bind{Work: work, Node: node, Count: count}
}

// grant is one for cell 1 that has an Until and binds of its own; with version 0 it is a greeting that has them too.
func grant(boot, epoch, version int) api.Message {
	return api.Message{
		Kind: 1, Cell: 1, Boot: boot, Epoch: epoch, Version: version, Until: 20 + (7*boot+5*epoch+3*version)%1000,
		Binds: []api.Bind{bind("b"+strconv.Itoa(boot%10), "m", 1+epoch%1000), bind("web", "n"+strconv.Itoa(epoch%10), 1+version%1000)},
	}
}

// greeting is one as the placer sends it: everything else is 0.
func greeting(number, epoch int) api.Message {
	return api.Message{Kind: 1, Cell: number, Epoch: epoch}
}

// numbered is so many binds that ascend.
func numbered(many int) []api.Bind {
	var binds []api.Bind
	for i := range many {
		binds = append(binds, bind("workload"+string(rune('a'+i/16)), "node"+string(rune('a'+i%16)), 1000-i))
	}
	return binds
}

// H1, H2: the chapter's examples.

func TestTheExample(t *testing.T) {
	c := cell.New(1, 1)
	binds := []api.Bind{bind("a", "n", 2)}
	m := api.Message{Kind: api.KindGrant, Cell: 1, Boot: 1, Epoch: 2, Version: 1, Until: 20, Binds: binds}
	if !c.Receive(m) {
		t.Error("the grant is not accepted")
	}
	if got := c.Running(19); !slices.Equal(got, binds) {
		t.Errorf("Running(19): %v", got)
	}
	if got := c.Running(20); len(got) != 0 {
		t.Errorf("Running(20): %v", got)
	}
	if c.Receive(m) {
		t.Error("the same grant is accepted again")
	}
	if !c.Receive(api.Message{Kind: api.KindGrant, Cell: 1, Epoch: 3}) {
		t.Error("the greeting is not accepted")
	}
	want := api.Message{Kind: 2, Cell: 1, Boot: 1, Epoch: 3, Version: 0, Until: 20, Binds: binds}
	if got := c.Report(); !same(got, want) {
		t.Errorf("Report: %v", got)
	}
	m.Version = 9
	if c.Receive(m) {
		t.Error("a grant of the earlier placer is accepted")
	}
	if got := c.Report(); !same(got, want) {
		t.Errorf("Report: %v", got)
	}
	if api.KindGrant != 1 || api.KindReport != 2 {
		t.Error("the Kinds have other numbers")
	}
}

// H1.

// anyNumbers are numbers that a cell may be given, whether they are in a message or not.
func anyNumbers() []int {
	return []int{0, 1, 2, 3, 4, -1, -2, 255, 256, 257, 1 << 32, 1<<32 + 1, last - 1, last, last + 1, lastUntil, math.MinInt, math.MinInt32, math.MaxInt32, math.MaxInt}
}

// TestNew: a new cell has its number and its boot, whatever these are, and nothing else.
func TestNew(t *testing.T) {
	for _, number := range anyNumbers() {
		for _, boot := range anyNumbers() {
			c := cell.New(number, boot)
			if got := c.Report(); !same(got, api.Message{Kind: 2, Cell: number, Boot: boot}) {
				t.Errorf("New(%d, %d): %v", number, boot, got)
			}
			for _, now := range append(anyNumbers(), -20, -last, -last-1) {
				if got := c.Running(now); len(got) != 0 {
					t.Errorf("New(%d, %d): Running(%d) %v", number, boot, now, got)
				}
			}
		}
	}
}

// TestReport: each value comes from its own field of the last grant.
func TestReport(t *testing.T) {
	c := cell.New(2, 7)
	m := api.Message{Kind: 1, Cell: 2, Boot: 7, Epoch: 11, Version: 13, Until: -17, Binds: numbered(3)}
	if !c.Receive(m) {
		t.Error("not accepted")
	}
	want := m
	want.Kind = 2
	for range 3 {
		if got := c.Report(); !same(got, want) {
			t.Errorf("%v; not %v", got, want)
		}
	}
}

// TestReportIsMessage: what a cell with a valid number and boot reports is a message, whatever it received.
func TestReportIsMessage(t *testing.T) {
	for number := range 3 {
		for _, boot := range []int{0, 1, last} {
			c := cell.New(number, boot)
			for _, m := range []api.Message{{}, {Kind: 1, Epoch: 1}, {Kind: 1, Boot: boot, Epoch: 1, Version: 1, Until: lastUntil, Binds: numbered(64)}, {Kind: 1, Epoch: last}, {Kind: 1, Boot: boot, Epoch: last, Version: last, Until: -lastUntil}} {
				m.Cell = number
				c.Receive(m)
				s, e := msg.Put(c.Report())
				got, e2 := msg.Get(s)
				if e != api.OK || e2 != api.OK || !same(got, c.Report()) {
					t.Errorf("%v comes as %v, %d, %d", c.Report(), got, e, e2)
				}
			}
		}
	}
}

// TestRunning: binds ahead of until, none from then on, whatever was asked before.
func TestRunning(t *testing.T) {
	binds := numbered(2)
	for _, x := range []struct {
		until, now int
		runs       bool
	}{
		{20, 19, true}, {20, 20, false}, {20, 21, false}, {20, 18, true}, {20, 0, true}, {20, -1, true}, {20, math.MinInt, true}, {20, math.MaxInt, false},
		{0, -1, true}, {0, 0, false}, {1, 0, true}, {-7, -8, true}, {-7, -7, false}, {-7, 0, false},
		{last, last - 1, true}, {last, last, false}, {last + 1, last, false}, {last + 1, last - 1, true}, {lastUntil, last - 1, true}, {lastUntil, last, false}, {lastUntil, last + 1, false}, {lastUntil, math.MaxInt, false},
		{-last, -last, false}, {-last, -last - 1, false}, {-last, math.MinInt, false}, {-last + 1, -last, true}, {-last + 1, -last - 5, true}, {-last + 1, math.MinInt, true}, {-last + 1, -last + 1, false},
		{-last - 1, math.MinInt, false}, {-lastUntil, -lastUntil - 1, false}, {-lastUntil, math.MinInt, false},
	} {
		c := cell.New(0, 0)
		if !c.Receive(api.Message{Kind: 1, Version: 1, Until: x.until, Binds: binds}) {
			t.Errorf("until %d: not accepted", x.until)
		}
		for range 3 {
			got := c.Running(x.now)
			if x.runs && !slices.Equal(got, binds) || !x.runs && len(got) != 0 {
				t.Errorf("until %d: Running(%d) %v", x.until, x.now, got)
			}
			c.Running(math.MaxInt)
			c.Running(math.MinInt)
		}
	}
}

// TestRunningEdges: Untils and readings around each limit, by the words.
func TestRunningEdges(t *testing.T) {
	var times []int
	for _, middle := range []int{-lastUntil, -last, 0, 20, last, lastUntil} {
		for d := -3; d <= 3; d++ {
			times = append(times, middle+d)
		}
	}
	times = append(times, math.MinInt, math.MinInt+1, math.MaxInt-1, math.MaxInt)
	for _, until := range times {
		for _, now := range times {
			c, want := newPair(2, 3)
			m := api.Message{Kind: 1, Cell: 2, Boot: 3, Epoch: 0, Version: 1, Until: until, Binds: numbered(1)}
			if got := c.Receive(m); got != want.receive(m) {
				t.Errorf("until %d: %v", until, got)
			}
			if got := c.Running(now); !slices.Equal(got, want.running(now)) {
				t.Errorf("until %d: Running(%d) %v", until, now, got)
			}
		}
	}
}

// H2.

// TestReceive: one message behind a few others, by hand.
func TestReceive(t *testing.T) {
	g := grant
	report := g(1, 9, 9)
	report.Kind = api.KindReport
	other := g(1, 9, 9)
	other.Cell = 0
	for _, x := range []struct {
		what   string
		before []api.Message
		m      api.Message
		took   bool
	}{
		{"the first version of no epoch", nil, g(1, 0, 1), true},
		{"a version of no epoch", nil, g(1, 0, 5), true},
		{"a greeting of no epoch", nil, g(1, 0, 0), false},
		{"the first greeting", nil, g(1, 1, 0), true},
		{"a greeting for another boot", nil, g(2, 1, 0), true},
		{"a greeting for an earlier boot", nil, g(0, 1, 0), true},
		{"the first grant", nil, g(1, 1, 1), true},
		{"a grant for a later boot", nil, g(2, 1, 1), false},
		{"a grant for an earlier boot", nil, g(0, 1, 1), false},
		{"a report", nil, report, false},
		{"a grant for another cell", nil, other, false},
		{"the same again", []api.Message{g(1, 2, 3)}, g(1, 2, 3), false},
		{"the next version", []api.Message{g(1, 2, 3)}, g(1, 2, 4), true},
		{"a later version", []api.Message{g(1, 2, 3)}, g(1, 2, 40), true},
		{"an earlier version", []api.Message{g(1, 2, 3)}, g(1, 2, 2), false},
		{"a later version for another boot", []api.Message{g(1, 2, 3)}, g(2, 2, 4), false},
		{"an earlier version of a later epoch", []api.Message{g(1, 2, 3)}, g(1, 3, 1), true},
		{"the same version of a later epoch", []api.Message{g(1, 2, 3)}, g(1, 3, 3), true},
		{"a later epoch for another boot", []api.Message{g(1, 2, 3)}, g(0, 3, 4), false},
		{"a later version of an earlier epoch", []api.Message{g(1, 2, 3)}, g(1, 1, 9), false},
		{"a greeting of the same epoch", []api.Message{g(1, 2, 3)}, g(1, 2, 0), false},
		{"a greeting of an earlier epoch", []api.Message{g(1, 2, 3)}, g(1, 1, 0), false},
		{"a greeting of a later epoch", []api.Message{g(1, 2, 3)}, g(1, 3, 0), true},
		{"a greeting of a later epoch for another boot", []api.Message{g(1, 2, 3)}, g(7, 3, 0), true},
		{"the same greeting", []api.Message{g(1, 2, 3), g(1, 3, 0)}, g(1, 3, 0), false},
		{"the first version behind a greeting", []api.Message{g(1, 2, 3), g(1, 3, 0)}, g(1, 3, 1), true},
		{"the version it has, of the epoch before the greeting", []api.Message{g(1, 2, 3), g(1, 3, 0)}, g(1, 2, 3), false},
		{"a later version of the epoch before the greeting", []api.Message{g(1, 2, 3), g(1, 3, 0)}, g(1, 2, 4), false},
		{"the same version of the greeting's epoch", []api.Message{g(1, 2, 3), g(1, 3, 0)}, g(1, 3, 3), true},
		{"no message", []api.Message{g(1, 2, 3)}, api.Message{}, false},
	} {
		if got := checkAll(t, 1, 1, append(x.before, x.m)...); got != checkAll(t, 1, 1, x.before...)+oneIf(x.took) {
			t.Errorf("%s: not %v", x.what, x.took)
		}
	}
}

// oneIf is 1 for yes, 0 for no.
func oneIf(yes bool) int {
	if yes {
		return 1
	}
	return 0
}

// TestGrantReplaces: a grant replaces all that the cell had, also by nothing, and by a lease that ends sooner.
func TestGrantReplaces(t *testing.T) {
	first := api.Message{Kind: 1, Cell: 1, Boot: 1, Epoch: 4, Version: 6, Until: 90, Binds: numbered(5)}
	for _, m := range []api.Message{
		{Epoch: 4, Version: 7, Until: 91, Binds: numbered(6)},
		{Epoch: 4, Version: 7, Until: 90, Binds: numbered(5)[:2]},
		{Epoch: 4, Version: 7, Until: 5, Binds: numbered(1)},
		{Epoch: 4, Version: 7, Until: 90},
		{Epoch: 4, Version: 7},
		{Epoch: 5, Version: 1, Until: -3, Binds: []api.Bind{bind("x", "y", 1)}},
		{Epoch: 5, Version: 6},
	} {
		m.Kind, m.Cell, m.Boot = 1, 1, 1
		c := cell.New(1, 1)
		if !c.Receive(first) || !c.Receive(m) {
			t.Errorf("%v is not accepted", m)
		}
		m.Kind = 2
		if got := c.Report(); !same(got, m) {
			t.Errorf("%v; not %v", got, m)
		}
	}
}

// TestGreetingKeeps: what runs goes on till its lease ends, however many placers greet and whatever is in their greetings.
func TestGreetingKeeps(t *testing.T) {
	binds := numbered(3)
	for _, m := range []api.Message{greeting(1, 5), grant(1, 5, 0), grant(9, last, 0), {Kind: 1, Cell: 1, Epoch: 6, Until: lastUntil}, {Kind: 1, Cell: 1, Boot: last, Epoch: 5, Until: -lastUntil, Binds: numbered(64)}} {
		c := cell.New(1, 1)
		if !c.Receive(api.Message{Kind: 1, Cell: 1, Boot: 1, Epoch: 4, Version: 6, Until: 90, Binds: binds}) || !c.Receive(m) {
			t.Errorf("%v is not accepted", m)
		}
		if got := c.Report(); !same(got, api.Message{Kind: 2, Cell: 1, Boot: 1, Epoch: m.Epoch, Until: 90, Binds: binds}) {
			t.Errorf("behind %v: %v", m, got)
		}
		if !slices.Equal(c.Running(89), binds) || len(c.Running(90)) != 0 {
			t.Errorf("behind %v: %v and %v run", m, c.Running(89), c.Running(90))
		}
		next := api.Message{Kind: 1, Cell: 1, Boot: 1, Epoch: m.Epoch, Version: 1, Until: 7, Binds: binds[:1]}
		if !c.Receive(next) || !slices.Equal(c.Running(6), binds[:1]) || len(c.Running(7)) != 0 {
			t.Errorf("the first grant behind %v: %v", m, c.Report())
		}
	}
	checkAll(t, 1, 1, grant(1, 1, 1), greeting(1, 2), greeting(1, 3), greeting(1, 3), greeting(1, 2), grant(1, 2, 8), grant(4, 9, 0), grant(1, 8, 8), grant(1, 9, 8))
}

// reached are lists of messages that lead a cell with boot 1 to each small epoch and version.
func reached() [][]api.Message {
	all := [][]api.Message{nil}
	for epoch := range 4 {
		all = append(all, []api.Message{grant(1, 0, 1), grant(3, epoch, 0)})
		for version := 1; version < 4; version++ {
			all = append(all, []api.Message{grant(1, epoch, version)})
		}
	}
	return all
}

// TestEachMessage: each message of small numbers, of each kind and for each cell and boot, at each small epoch and version.
func TestEachMessage(t *testing.T) {
	took, refused := 0, 0
	for _, before := range reached() {
		start := checkAll(t, 1, 1, before...)
		for i := range 4 * 5 * 4 * 5 * 5 {
			m := grant(i/5/5%4, i/5%5, i%5)
			m.Kind, m.Cell = i/100%4, i/400%5-1
			if checkAll(t, 1, 1, append(slices.Clip(before), m)...) > start {
				took++
			} else {
				refused++
			}
		}
	}
	if took < 100 || refused < 10000 {
		t.Errorf("%d accepted, %d not", took, refused)
	}
}

// TestAllShortLists: each list of 4 grants and greetings of small numbers, and what is behind each of its messages.
func TestAllShortLists(t *testing.T) {
	var messages []api.Message
	for i := range 3 * 3 * 2 {
		messages = append(messages, grant(1+i%2, i/6, i/2%3))
	}
	var extend func(list []api.Message, more int)
	extend = func(list []api.Message, more int) {
		if more == 0 {
			checkAll(t, 1, 1, list...)
			return
		}
		for _, m := range messages {
			extend(append(slices.Clip(list), m), more-1)
		}
	}
	extend(nil, 4)
}

// TestLargeNumbers: epochs and versions of all sizes against each other.
func TestLargeNumbers(t *testing.T) {
	numbers := []int{0, 1, 2, 255, 256, 1<<32 - 1, 1 << 32, 1<<32 + 1, last - 1, last}
	wrong := []int{-1, last + 1, 1 << 41, 1 << 62, math.MaxInt, math.MinInt, -last}
	for _, epoch := range numbers {
		for _, version := range numbers {
			before := grant(1, epoch, version)
			for _, nextEpoch := range slices.Concat(numbers, wrong) {
				for _, nextVersion := range slices.Concat(numbers, wrong) {
					m := api.Message{Kind: 1, Cell: 1, Boot: 1, Epoch: nextEpoch, Version: nextVersion, Until: 50, Binds: numbered(1)}
					checkAll(t, 1, 1, before, m)
				}
			}
		}
	}
}

// TestNumbersOfCells: a cell takes what is for its number alone; one with a number that no message has takes nothing.
func TestNumbersOfCells(t *testing.T) {
	for _, number := range anyNumbers() {
		for _, to := range anyNumbers() {
			m := grant(1, 5, 5)
			m.Cell = to
			want := 0
			if number == to && isBetween(number, 0, 2) {
				want = 2
			}
			if got := checkAll(t, number, 1, m, greeting(to, 6)); got != want {
				t.Errorf("New(%d, 1) took %d messages for %d", number, got, to)
			}
		}
	}
}

// TestBoots: a cell takes grants for its boot alone; one with a boot that no message has takes greetings alone.
func TestBoots(t *testing.T) {
	for _, boot := range anyNumbers() {
		for _, of := range anyNumbers() {
			want := 0
			if boot == of && isBetween(boot, 0, last) {
				want = 1
			}
			if got := checkAll(t, 1, boot, grantOf(of, 5, 5)); got != want {
				t.Errorf("New(1, %d) took %d grants for boot %d", boot, got, of)
			}
			if got := checkAll(t, 1, boot, grantOf(of, 5, 0)); got != oneIf(isBetween(of, 0, last)) {
				t.Errorf("New(1, %d) took %d greetings for boot %d", boot, got, of)
			}
		}
	}
}

// grantOf is a grant for any boot, whether it is one or not.
func grantOf(boot, epoch, version int) api.Message {
	m := grant(1, epoch, version)
	m.Boot = boot
	return m
}

// spoiled are messages that are not valid, each for one reason; all else of them is that of m, which has a bind at least.
func spoiled(m api.Message) []api.Message {
	var all []api.Message
	add := func(spoil func(m *api.Message)) {
		other := m
		other.Binds = slices.Clone(m.Binds)
		spoil(&other)
		all = append(all, other)
	}
	for _, n := range []int{-1, 0, 3, 4, 257, 1<<32 + 1, math.MaxInt, math.MinInt} {
		add(func(m *api.Message) { m.Kind = n })
	}
	for _, n := range []int{-1, 3, 4, math.MaxInt, math.MinInt} {
		add(func(m *api.Message) { m.Cell = n })
	}
	for _, n := range []int{-1, last + 1, math.MaxInt, math.MinInt} {
		add(func(m *api.Message) { m.Boot = n })
		add(func(m *api.Message) { m.Epoch = n })
		add(func(m *api.Message) { m.Version = n })
	}
	for _, n := range []int{lastUntil + 1, -lastUntil - 1, math.MaxInt, math.MinInt} {
		add(func(m *api.Message) { m.Until = n })
	}
	for _, n := range []int{-1, 0, 1001, math.MaxInt, math.MinInt} {
		add(func(m *api.Message) { m.Binds[len(m.Binds)-1].Count = n })
	}
	for _, s := range []string{"", "A", "a b", "abcdefghijklm", "é", "a\n"} {
		add(func(m *api.Message) { m.Binds[0].Work = s })
		add(func(m *api.Message) { m.Binds[0].Node = s })
	}
	add(func(m *api.Message) { m.Binds = append(m.Binds, m.Binds[0]) })
	add(func(m *api.Message) { m.Binds = append([]api.Bind{bind("zz", "z", 1)}, m.Binds...) })
	add(func(m *api.Message) { m.Binds = numbered(65) })
	add(func(m *api.Message) { m.Binds = make([]api.Bind, 1) })
	return all
}

// TestInvalid: a message that is not valid is not accepted, also where it would be later, and changes nothing.
func TestInvalid(t *testing.T) {
	for _, before := range reached() {
		start := checkAll(t, 1, 1, before...)
		for _, m := range []api.Message{grant(1, 9, 9), grant(1, 9, 0), grant(1, 3, 9)} {
			if checkAll(t, 1, 1, append(slices.Clip(before), m)...) != start+1 {
				t.Errorf("%v is not accepted behind %v", m, before)
			}
			for _, other := range spoiled(m) {
				if checkAll(t, 1, 1, append(slices.Clip(before), other)...) != start {
					t.Errorf("%v is accepted", other)
				}
			}
		}
	}
}

// TestHowMany: a grant may have up to 64 binds.
func TestHowMany(t *testing.T) {
	for many := range 70 {
		for _, version := range []int{0, 1} {
			m := api.Message{Kind: 1, Cell: 1, Boot: 1, Epoch: 1, Version: version, Until: 9, Binds: numbered(many)}
			if got := checkAll(t, 1, 1, m); got != oneIf(many <= 64) {
				t.Errorf("%d binds, version %d: %d", many, version, got)
			}
		}
	}
}

// randomMessage is one whose numbers are near those that the others have; nearly all are valid.
func randomMessage(random *rand.Rand, epochs, versions int) api.Message {
	m := grant(1+random.Intn(8)/7, random.Intn(epochs), random.Intn(versions))
	m.Until = random.Intn(60) - 10
	m.Binds = numbered(random.Intn(4))
	switch random.Intn(30) {
	case 0:
		m.Kind = random.Intn(4)
	case 1:
		m.Cell = random.Intn(5) - 1
	case 2:
		m.Binds = numbered(60 + random.Intn(10))
	case 3:
		all := spoiled(grant(1, epochs, versions))
		return all[random.Intn(len(all))]
	}
	return m
}

// TestRandomLists: long lists of messages.
func TestRandomLists(t *testing.T) {
	took := 0
	for seed := range int64(2000) {
		random := rand.New(rand.NewSource(seed))
		epochs, versions := 2+random.Intn(30), 1+random.Intn(30)
		var messages []api.Message
		for range 80 {
			messages = append(messages, randomMessage(random, epochs, versions))
		}
		took += checkAll(t, 1, 1, messages...)
	}
	if took < 8000 {
		t.Errorf("only %d accepted", took)
	}
}

// H3.

// TestNeverBack: the pair of epoch and version rises with what is accepted, and all else changes nothing.
func TestNeverBack(t *testing.T) {
	took, refused := 0, 0
	for seed := range int64(1000) {
		random := rand.New(rand.NewSource(seed + 5000))
		c := cell.New(1, 1)
		for range 100 {
			m := randomMessage(random, 8, 12)
			before, running := c.Report(), c.Running(5)
			accepted := c.Receive(m)
			after := c.Report()
			rose := after.Epoch > before.Epoch || after.Epoch == before.Epoch && after.Version > before.Version
			if accepted != rose {
				t.Fatalf("%v: %v; behind it %v, ahead of it %v", m, accepted, after, before)
			}
			if accepted && (after.Epoch != m.Epoch || after.Version != m.Version) {
				t.Fatalf("%v is accepted: %v", m, after)
			}
			if !accepted && (!same(before, after) || !slices.Equal(running, c.Running(5))) {
				t.Fatalf("%v is not accepted: %v; before %v", m, after, before)
			}
			if accepted {
				took++
			} else {
				refused++
			}
		}
	}
	if took < 3000 || refused < 3000 {
		t.Errorf("%d accepted, %d not", took, refused)
	}
}

// TestLateMessages: what was sent ahead of what the cell has is not accepted, however often it comes.
func TestLateMessages(t *testing.T) {
	var sent []api.Message
	for epoch := 1; epoch <= 5; epoch++ {
		for version := range 6 {
			sent = append(sent, grant(1, epoch, version))
		}
	}
	for i, m := range sent {
		c := cell.New(1, 1)
		if !c.Receive(m) {
			t.Errorf("%v is not accepted", m)
		}
		before := c.Report()
		for range 2 {
			for _, late := range sent[:i+1] {
				if c.Receive(late) || !same(c.Report(), before) {
					t.Errorf("%v behind %v: %v", late, m, c.Report())
				}
			}
		}
		for _, next := range sent[i+1:] {
			if !c.Receive(next) {
				t.Errorf("%v behind %v is not accepted", next, m)
			}
		}
	}
}

// orders visits all orders of messages.
func orders(messages []api.Message, visit func(order []api.Message)) {
	var extend func(order, rest []api.Message)
	extend = func(order, rest []api.Message) {
		if len(rest) == 0 {
			visit(order)
		}
		for i, m := range rest {
			extend(append(slices.Clip(order), m), slices.Concat(rest[:i], rest[i+1:]))
		}
	}
	extend(nil, messages)
}

// TestAnyOrder: in whatever order the greeting and the grants of an epoch come, the cell finally has the grant with the greatest version.
func TestAnyOrder(t *testing.T) {
	for _, versions := range [][]int{{0, 1}, {1, 2, 3}, {0, 1, 2, 3, 4, 5}, {0, 3, 7, 20, 256}, {1, last, 2}} {
		var messages []api.Message
		for _, version := range versions {
			messages = append(messages, grant(1, 3, version))
		}
		greatest := grant(1, 3, slices.Max(versions))
		greatest.Kind = 2
		orders(messages, func(order []api.Message) {
			c := cell.New(1, 1)
			c.Receive(grant(1, 2, 30))
			for _, m := range order {
				c.Receive(m)
			}
			if got := c.Report(); !same(got, greatest) {
				t.Errorf("behind %v: %v", order, got)
			}
		})
	}
}

// TestLossesAndCopies: of the grants that come, some of them several times, the cell finally has that of the latest epoch with the greatest version.
func TestLossesAndCopies(t *testing.T) {
	for seed := range int64(2000) {
		random := rand.New(rand.NewSource(seed))
		c := cell.New(1, 1)
		var came []api.Message
		for range 1 + random.Intn(20) {
			m := grant(1, 1+random.Intn(3), 1+random.Intn(9))
			for range 1 + random.Intn(2) {
				came = slices.Insert(came, random.Intn(len(came)+1), m)
			}
		}
		greatest := came[0]
		for _, m := range came {
			c.Receive(m)
			if 100*m.Epoch+m.Version > 100*greatest.Epoch+greatest.Version {
				greatest = m
			}
		}
		greatest.Kind = 2
		if got := c.Report(); !same(got, greatest) {
			t.Fatalf("behind %v: %v", came, got)
		}
	}
}

// TestRestarted: a cell that was started again runs nothing of what it was granted before, whatever comes late.
func TestRestarted(t *testing.T) {
	for seed := range int64(500) {
		random := rand.New(rand.NewSource(seed))
		boot := 1 + random.Intn(5)
		c := cell.New(1, boot)
		var sent []api.Message
		for i := range 40 {
			m := grant(boot, 1+i/8, i%8)
			sent = append(sent, m)
			c.Receive(m)
		}
		if len(c.Running(10)) == 0 {
			t.Fatal("nothing ran before")
		}
		c = cell.New(1, boot+1)
		for range 80 {
			m := sent[random.Intn(len(sent))]
			if c.Receive(m) && m.Version != 0 {
				t.Fatalf("%v is accepted by boot %d", m, boot+1)
			}
			for _, now := range []int{math.MinInt, -last, -1, 0, 10} {
				if got := c.Running(now); len(got) != 0 {
					t.Fatalf("behind %v: %v run", m, got)
				}
			}
			if got := c.Report(); got.Boot != boot+1 || got.Version != 0 || got.Until != 0 || len(got.Binds) != 0 {
				t.Fatalf("behind %v: %v", m, got)
			}
		}
		if m := grant(boot+1, 6, 1); !c.Receive(m) || !slices.Equal(c.Running(10), m.Binds) {
			t.Fatal("what it is granted anew does not run")
		}
	}
}

// unique is a grant or a greeting whose binds no other one has.
func unique(random *rand.Rand, i int) api.Message {
	m := grant(1, 1+random.Intn(1+i/10), random.Intn(1+i/2))
	m.Until = i + random.Intn(30) - 5
	m.Binds = nil
	for k := range random.Intn(4) {
		m.Binds = append(m.Binds, bind("w"+strconv.Itoa(k), "n"+strconv.Itoa(i), 1+random.Intn(4)))
	}
	return m
}

// TestSingleGrant: the cell runs the binds of one grant, the last that it accepted, and nothing from that one's until on.
func TestSingleGrant(t *testing.T) {
	ran, ended := 0, 0
	for seed := range int64(500) {
		random := rand.New(rand.NewSource(seed))
		c := cell.New(1, 1)
		var sent []api.Message
		var has api.Message
		for i := range 100 {
			sent = append(sent, unique(random, i))
			if m := sent[random.Intn(len(sent))]; c.Receive(m) && m.Version != 0 {
				has = m
			}
			for d := -3; d <= 3; d++ {
				got := c.Running(i + d)
				switch {
				case i+d >= has.Until && len(got) != 0:
					t.Fatalf("seed %d: %v run at %d by %v", seed, got, i+d, has)
				case i+d < has.Until && !slices.Equal(got, has.Binds):
					t.Fatalf("seed %d: %v run at %d, not %v", seed, got, i+d, has)
				case len(got) != 0:
					ran++
				case len(has.Binds) != 0:
					ended++
				}
			}
		}
	}
	if ran < 10000 || ended < 10000 {
		t.Errorf("%d times something ran, %d times it had ended", ran, ended)
	}
}

// R1.

// TestHugeMessages: lists and texts of any length, which nobody could have sent.
func TestHugeMessages(t *testing.T) {
	long := strings.Repeat("a", 1<<22)
	for _, binds := range [][]api.Bind{make([]api.Bind, 1<<20), slices.Repeat([]api.Bind{bind("a", "n", 1)}, 1<<20), {bind(long, "n", 1)}, {bind("a", long, 1)}} {
		for _, version := range []int{0, 1, last} {
			c := cell.New(1, 1)
			m := api.Message{Kind: 1, Cell: 1, Boot: 1, Epoch: 1, Version: version, Until: 50, Binds: binds}
			if c.Receive(m) || !same(c.Report(), api.Message{Kind: 2, Cell: 1, Boot: 1}) {
				t.Errorf("%d binds, version %d are accepted", len(binds), version)
			}
		}
	}
}

// TestExtremes: messages of numbers from the least to the greatest.
func TestExtremes(t *testing.T) {
	numbers := []int{math.MinInt, -1, 0, 1, last, math.MaxInt}
	for _, number := range numbers {
		for _, boot := range numbers {
			for _, epoch := range numbers {
				for _, version := range numbers {
					for _, until := range numbers {
						m := api.Message{Kind: 1, Cell: number, Boot: boot, Epoch: epoch, Version: version, Until: until}
						checkAll(t, number, boot, m, m, api.Message{Kind: 1, Cell: number, Boot: boot, Epoch: until, Version: epoch, Until: version})
					}
				}
			}
		}
	}
}

// TestManyGrants: a cell lasts, however many grants it takes.
func TestManyGrants(t *testing.T) {
	c := cell.New(1, 1)
	for i := range 200000 {
		m := grant(1, 1+i/1000, i%1000)
		if !c.Receive(m) || c.Receive(m) {
			t.Fatal(i, c.Report())
		}
	}
	if got := c.Report(); got.Epoch != 200 || got.Version != 999 {
		t.Error(got)
	}
}

// R3.

// lent returns a text whose memory may be changed.
func lent(s string) (string, []byte) {
	memory := []byte(s)
	return unsafe.String(unsafe.SliceData(memory), len(memory)), memory
}

// TestArgumentsNotKept: a message may be changed once it is received, also its texts' memory.
func TestArgumentsNotKept(t *testing.T) {
	work, memoryWork := lent("abc")
	node, memoryNode := lent("m")
	m := api.Message{Kind: 1, Cell: 1, Boot: 1, Epoch: 1, Version: 1, Until: 50, Binds: []api.Bind{bind(work, node, 1), bind("web", "n", 2)}}
	c := cell.New(1, 1)
	if !c.Receive(m) {
		t.Error("not accepted")
	}
	m.Binds[1] = bind("x", "y", 9)
	clear(memoryWork)
	clear(memoryNode)
	want := []api.Bind{bind("abc", "m", 1), bind("web", "n", 2)}
	if got := c.Running(0); !slices.Equal(got, want) {
		t.Errorf("Running: %v", got)
	}
	if got := c.Report(); !slices.Equal(got.Binds, want) {
		t.Errorf("Report: %v", got)
	}
}

// TestArgumentsNotChanged: neither the binds nor what is behind their length, whether the message is accepted or not.
func TestArgumentsNotChanged(t *testing.T) {
	whole := append(numbered(4), bind("spare", "o", 7), bind("", "", -1))
	before := slices.Clone(whole)
	c := cell.New(1, 1)
	for n := range len(whole) {
		for version := range 3 {
			m := api.Message{Kind: 1, Cell: 1, Boot: 1, Epoch: 1 + n, Version: version, Until: 50, Binds: whole[:n]}
			c.Receive(m)
			c.Receive(m)
			c.Report()
			c.Running(0)
		}
	}
	if !slices.Equal(whole, before) {
		t.Errorf("changed: %v", whole)
	}
}

// answers are a cell's answers that have its binds.
func answers(c *cell.Cell) [][]api.Bind {
	return [][]api.Bind{c.Report().Binds, c.Running(0), c.Report().Binds, c.Running(0)}
}

// TestAnswersApart: an answer may be changed and extended without changing the cell or another answer.
func TestAnswersApart(t *testing.T) {
	for many := range 9 {
		c := cell.New(1, 1)
		c.Receive(api.Message{Kind: 1, Cell: 1, Boot: 1, Epoch: 1, Version: 1, Until: 50, Binds: numbered(many)})
		all := answers(c)
		for i := range all {
			whole := all[i][:cap(all[i])]
			for k := range whole {
				whole[k] = bind("z", "z", 9)
			}
			for _, other := range append(all[i+1:], answers(c)...) {
				if !slices.Equal(other, numbered(many)) {
					t.Errorf("%d binds: another answer is %v", many, other)
				}
			}
		}
	}
}

// TestTextsApart: no two answers have the memory of a text in common, nor one with the message that was received.
func TestTextsApart(t *testing.T) {
	m := grant(1, 1, 1)
	c := cell.New(1, 1)
	c.Receive(m)
	seen := map[*byte]bool{}
	for _, l := range append(answers(c), m.Binds) {
		for _, b := range l {
			for _, s := range []string{b.Work, b.Node} {
				if seen[unsafe.StringData(s)] {
					t.Errorf("%q is in the memory of another answer", s)
				}
				seen[unsafe.StringData(s)] = true
			}
		}
	}
}

// TestAnswersLast: an answer stays, whatever the cell receives afterwards.
func TestAnswersLast(t *testing.T) {
	c := cell.New(1, 1)
	first := grant(1, 1, 1)
	c.Receive(first)
	report, running := c.Report(), c.Running(0)
	for epoch := 2; epoch < 9; epoch++ {
		c.Receive(grant(1, epoch, 0))
		c.Receive(grant(1, epoch, 4))
	}
	first.Kind = 2
	if !same(report, first) || !slices.Equal(running, first.Binds) {
		t.Errorf("%v, %v", report, running)
	}
}

// R4.

// TestCellsApart: what one cell receives is nothing to another one, and the same calls have the same answers.
func TestCellsApart(t *testing.T) {
	for seed := range int64(300) {
		random := rand.New(rand.NewSource(seed))
		c, want := newPair(1, 1)
		twin := cell.New(1, 1)
		other, wantOther := newPair(1, 2)
		for range 60 {
			m := randomMessage(random, 6, 9)
			if got := c.Receive(m); got != want.receive(m) || twin.Receive(m) != got {
				t.Fatalf("seed %d: %v: %v", seed, m, got)
			}
			m = randomMessage(random, 9, 6)
			if got := other.Receive(m); got != wantOther.receive(m) {
				t.Fatalf("seed %d: %v of the other cell: %v", seed, m, got)
			}
			if !isSo(t, c, want) || !isSo(t, twin, want) || !isSo(t, other, wantOther) {
				t.Fatalf("seed %d", seed)
			}
		}
	}
	isSo(t, cell.New(1, 1), &model{cell: 1, boot: 1})
}

// TestAsked: Report and Running change nothing, whenever and however often they are asked.
func TestAsked(t *testing.T) {
	messages := []api.Message{grant(1, 1, 1), grant(1, 1, 2), grant(1, 2, 0), grant(1, 1, 3), grant(1, 2, 2), grant(1, 2, 1), grant(5, 3, 0)}
	asked, left := cell.New(1, 1), cell.New(1, 1)
	for _, m := range messages {
		for now := -100; now < 100; now += 7 {
			asked.Running(now)
			asked.Report()
		}
		if got := asked.Receive(m); got != left.Receive(m) {
			t.Errorf("%v: %v", m, got)
		}
	}
	if got, want := fmt.Sprint(asked.Report(), asked.Running(30)), fmt.Sprint(left.Report(), left.Running(30)); got != want {
		t.Errorf("%s; not %s", got, want)
	}
}
