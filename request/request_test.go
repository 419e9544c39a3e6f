package request_test

import (
	"encoding/binary"
	"fmt"
	"hash/adler32"
	"math"
	"math/rand"
	"regexp"
	"slices"
	"strings"
	"testing"
	"unsafe"

	"billet/api"
	"billet/disk"
	"billet/intent"
	"billet/placer"
	"billet/request"
	"billet/store"
)

const (
	last      = 1099511627776 // the greatest Boot, Epoch and Version, and the greatest time: 2^40
	lastUntil = 2199023255552 // the greatest Until of a report; the least is its negative
)

// R1 to R3 are the chapter's promises; those of the document's rules that have the same names are called rules.

// The chapter's words, anew: numbers by Go's varints, checksums by its Adler-32, names, labels and selectors by regular expressions.

// num and text are chapter 1's encodings.
func num(n int) string { return string(binary.AppendVarint(nil, int64(n))) }

func text(s string) string { return num(len(s)) + s }

// nums are numbers, one behind the other.
func nums(numbers ...int) string {
	s := ""
	for _, n := range numbers {
		s += num(n)
	}
	return s
}

// framed is chapter 3's frame of a payload, however long.
func framed(payload string) string {
	s := text(payload)
	return s + string(binary.BigEndian.AppendUint32(nil, adler32.Checksum([]byte(s))))
}

// payloadOf is what the frame of a message bears, also of one that is not valid.
func payloadOf(m api.Message) string {
	s := nums(m.Kind, m.Cell, m.Boot, m.Epoch, m.Version, m.Until, len(m.Binds))
	for _, b := range m.Binds {
		s += text(b.Work) + text(b.Node) + num(b.Count)
	}
	return s
}

// laid is chapter 16's encoding of a message, also of one that is not valid.
func laid(m api.Message) string { return framed(payloadOf(m)) }

// told is an answer with messages, whatever they are.
func told(l ...api.Message) string {
	s := num(0)
	for _, m := range l {
		s += text(laid(m))
	}
	return s
}

// put is chapter 12's encoding of an operation, also of one that is not valid.
func put(o api.Op) string {
	switch w, n := o.Work, o.Node; o.Kind {
	case 1:
		return num(1) + text(w.ID) + nums(w.Want, w.Prio, w.PerNode, w.PerCell) + text(w.Selector)
	case 2:
		return num(2) + text(o.ID) + num(o.Want)
	case 4:
		s := num(4) + text(n.ID) + nums(n.Cell, n.Slots) + text(n.Labels)
		if n.Cordoned {
			return s + num(1)
		}
		return s + num(0)
	case 8:
		return num(8)
	}
	return num(o.Kind) + text(o.ID)
}

// source is a text that is read from its beginning; wrong tells that something was not what it should be.
type source struct {
	rest  string
	wrong bool
}

func (s *source) num() int {
	n, long := binary.Varint([]byte(s.rest[:min(len(s.rest), 20)]))
	if s.wrong || long <= 0 || num(int(n)) != s.rest[:long] {
		s.wrong = true
		return 0
	}
	s.rest = s.rest[long:]
	return int(n)
}

func (s *source) text(most int) string {
	long := s.num()
	if s.wrong || !isBetween(long, 0, min(most, len(s.rest))) {
		s.wrong = true
		return ""
	}
	out := s.rest[:long]
	s.rest = s.rest[long:]
	return out
}

// ended reports whether all was right and nothing is left.
func (s *source) ended() bool { return !s.wrong && s.rest == "" }

func isBetween(x, low, high int) bool { return low <= x && x <= high }

const (
	aName = `[a-z0-9]{1,12}`
	aTerm = `(!?` + aName + `|` + aName + `!?=` + aName + `)`
	aPair = aName + `=` + aName
)

var (
	name      = regexp.MustCompile(`^` + aName + `$`)
	selector  = regexp.MustCompile(`^(` + aTerm + `(,` + aTerm + `){0,3})?$`)
	labelList = regexp.MustCompile(`^(` + aPair + `(,` + aPair + `){0,3})?$`)
)

// isLabels is chapter 4's labels.
func isLabels(s string) bool {
	if !labelList.MatchString(s) {
		return false
	}
	before := ""
	for item := range strings.SplitSeq(s, ",") {
		key, _, _ := strings.Cut(item, "=")
		if s != "" && key <= before {
			return false
		}
		before = key
	}
	return true
}

// isOp is chapter 12's valid operation.
func isOp(o api.Op) bool {
	switch w, n := o.Work, o.Node; o.Kind {
	case 1:
		numbers := isBetween(w.Want, 0, 16) && isBetween(w.Prio, 0, 9) && isBetween(w.PerNode, 1, 16) && isBetween(w.PerCell, 1, 16)
		return numbers && name.MatchString(w.ID) && selector.MatchString(w.Selector)
	case 2:
		return name.MatchString(o.ID) && isBetween(o.Want, 0, 16)
	case 4:
		return name.MatchString(n.ID) && isBetween(n.Cell, 0, 2) && isBetween(n.Slots, 0, 4) && isLabels(n.Labels)
	case 3, 5, 6, 7:
		return name.MatchString(o.ID)
	}
	return o.Kind == 8
}

// What a text is as a request.
const (
	isNone = iota
	isStatus
	isOperation
)

// requestIn is the request that a text is.
func requestIn(t string) (int, api.Op) {
	if t == string([]byte{18}) {
		return isStatus, api.Op{}
	}
	s := &source{rest: t}
	o := api.Op{Kind: s.num()}
	switch o.Kind {
	case 1:
		o.Work.ID = s.text(12)
		for _, n := range []*int{&o.Work.Want, &o.Work.Prio, &o.Work.PerNode, &o.Work.PerCell} {
			*n = s.num()
		}
		o.Work.Selector = s.text(1000)
	case 2:
		o.ID = s.text(12)
		o.Want = s.num()
	case 4:
		o.Node.ID = s.text(12)
		o.Node.Cell = s.num()
		o.Node.Slots = s.num()
		o.Node.Labels = s.text(1000)
		o.Node.Cordoned = s.num() == 1
	default:
		o.ID = s.text(12)
	}
	if !s.ended() || o.Kind == 8 || !isOp(o) || put(o) != t {
		return isNone, api.Op{}
	}
	return isOperation, o
}

// isReport is chapter 16's valid message, if it is a report.
func isReport(m api.Message) bool {
	for i, b := range m.Binds {
		if !name.MatchString(b.Work) || !name.MatchString(b.Node) || !isBetween(b.Count, 1, 1000) {
			return false
		}
		if i > 0 && (m.Binds[i-1].Work > b.Work || m.Binds[i-1].Work == b.Work && m.Binds[i-1].Node >= b.Node) {
			return false
		}
	}
	times := isBetween(m.Boot, 0, last) && isBetween(m.Epoch, 0, last) && isBetween(m.Version, 0, last)
	return m.Kind == 2 && isBetween(m.Cell, 0, 2) && times && isBetween(m.Until, -lastUntil, lastUntil) && len(m.Binds) <= 64
}

// reportIn is the report whose encoding a text is.
func reportIn(t string) (api.Message, bool) {
	payload := (&source{rest: t}).text(4096)
	s := &source{rest: payload}
	m := api.Message{Kind: s.num()}
	for _, n := range []*int{&m.Cell, &m.Boot, &m.Epoch, &m.Version, &m.Until} {
		*n = s.num()
	}
	for many := s.num(); many > 0 && !s.wrong; many-- {
		b := api.Bind{Work: s.text(12), Node: ""}
		b.Node = s.text(12)
		b.Count = s.num()
		m.Binds = append(m.Binds, b)
	}
	return m, s.ended() && isReport(m) && laid(m) == t
}

// reading is what Read answers.
type reading struct {
	errno   api.Errno
	reports []api.Message
	ok      bool
}

// readingOf is what R2 says of Read.
func readingOf(t string) reading {
	s := &source{rest: t}
	e := s.num()
	if s.wrong || !isBetween(e, 0, 1000) {
		return reading{}
	}
	if e > 0 {
		if s.rest != "" {
			return reading{}
		}
		return reading{errno: api.Errno(e), ok: true}
	}
	var reports []api.Message
	for s.rest != "" {
		m, ok := reportIn(s.text(4200))
		if s.wrong || !ok || len(reports) == 3 {
			return reading{}
		}
		for _, before := range reports {
			if before.Cell >= m.Cell {
				return reading{}
			}
		}
		reports = append(reports, m)
	}
	return reading{reports: reports, ok: true}
}

// same reports whether two messages are equal.
func same(a, b api.Message) bool {
	return a.Kind == b.Kind && a.Cell == b.Cell && a.Boot == b.Boot && a.Epoch == b.Epoch && a.Version == b.Version && a.Until == b.Until && slices.Equal(a.Binds, b.Binds)
}

func (r reading) equals(s reading) bool {
	return r.errno == s.errno && r.ok == s.ok && slices.EqualFunc(r.reports, s.reports, same)
}

// sameState reports whether two states are equal.
func sameState(a, b api.State) bool {
	return a.Epoch == b.Epoch && slices.Equal(a.Works, b.Works) && slices.Equal(a.Nodes, b.Nodes)
}

// brief is what a failure tells of a text: both its ends, if it is long.
func brief(s string) string {
	if len(s) <= 300 {
		return fmt.Sprintf("%q", s)
	}
	return fmt.Sprintf("%q..%q of %d bytes", s[:150], s[len(s)-150:], len(s))
}

// read is Read's answer.
func read(answer string) reading {
	e, l, ok := request.Read(answer)
	return reading{e, l, ok}
}

// checkRead holds Read of a text against the chapter's words, and reports whether it is an answer.
func checkRead(t *testing.T, s string) bool {
	t.Helper()
	got, want := read(s), readingOf(s)
	if !got.equals(want) {
		t.Errorf("Read of %s is %v; not %v", brief(s), got, want)
	}
	return want.ok
}

// Two placers to which the same happens, but that one gets requests, and the other one what the words say of them.

// side is a placer with its store and its disk.
type side struct {
	d *disk.Disk
	s *store.Store
	p *placer.Placer
}

// pair is both, and all that was done so far.
type pair struct {
	t         *testing.T
	one, twin side
	past      []call
}

// call is something that was done, with its arguments.
type call struct {
	what string
	n    int
	arg  any
}

// begin starts both on the same disks at time 0; they perform operations.
func begin(t *testing.T, ops ...api.Op) *pair {
	t.Helper()
	return beginOn(t, disk.New(), disk.New(), ops...)
}

func beginOn(t *testing.T, d, same *disk.Disk, ops ...api.Op) *pair {
	t.Helper()
	x := &pair{t: t, one: side{d: d}, twin: side{d: same}}
	x.start(0)
	for _, o := range ops {
		x.asks(o)
	}
	return x
}

// start starts both on their disks.
func (x *pair) start(now int) {
	x.t.Helper()
	x.past = append(x.past, call{"New", now, nil})
	for _, s := range []*side{&x.one, &x.twin} {
		var e api.Errno
		if s.s, e = store.Open(s.d); e != api.OK {
			x.fail(e, "a store")
		}
		s.p = placer.New(s.s, now)
	}
	x.isSo()
}

// fail tells that something else was answered than there should be, and all that was done before.
func (x *pair) fail(got, want any) {
	x.t.Helper()
	for _, c := range x.past {
		if s, isText := c.arg.(string); isText {
			c.arg = brief(s)
		}
		x.t.Logf("%s %d %+v", c.what, c.n, c.arg)
	}
	x.t.Fatalf("%v; not %v", got, want)
}

// answer is what the words say of Serve.
func (s side) answer(asked string) string {
	kind, o := requestIn(asked)
	switch kind {
	case isStatus:
		out := num(0)
		for c := range 3 {
			if m, there := s.p.Seen(c); there {
				out += text(laid(m))
			}
		}
		return out
	case isOperation:
		return num(int(s.p.Do(o)))
	}
	return string([]byte{144, 3})
}

// serve is a request and its answer, which is held against the words; so is what the theorem says of it.
func (x *pair) serve(asked string) string {
	x.t.Helper()
	x.past = append(x.past, call{"Serve", 0, asked})
	before, acts := x.one.p.State(), x.one.d.Acts()
	got, want := request.Serve(x.one.p, asked), x.twin.answer(asked)
	if got != want {
		x.fail("Serve: "+brief(got), brief(want))
	}
	r := read(got)
	if !r.ok || !r.equals(readingOf(got)) {
		x.fail("Read of "+brief(got)+": "+fmt.Sprint(r), readingOf(got))
	}
	kind, o := requestIn(asked)
	after := x.one.p.State()
	switch {
	case kind == isOperation && x.one.s.Error() == api.OK && r.errno != 111: // that the log has no numbers left, chapter 13 doesn't count among the store's failures
		next, e := intent.Apply(before, o)
		if e != api.OK {
			next = before
		}
		if r.errno != e || len(r.reports) > 0 || !sameState(after, next) {
			x.fail(fmt.Sprint(r, after), fmt.Sprint(e, next))
		}
	case kind != isOperation && (x.one.d.Acts() != acts || !sameState(before, after)):
		x.fail(fmt.Sprint(x.one.d.Acts()-acts, after), before)
	case kind == isNone && (r.errno != 200 || len(r.reports) > 0), kind == isStatus && r.errno != 0:
		x.fail(r, kind)
	}
	return got
}

// asks is an operation as a request, and the error in the answer.
func (x *pair) asks(o api.Op) api.Errno {
	x.t.Helper()
	return read(x.serve(put(o))).errno
}

// receive is a report that comes to both.
func (x *pair) receive(now int, l ...api.Message) {
	x.t.Helper()
	for _, m := range l {
		x.past = append(x.past, call{"Receive", now, m})
		if got, want := x.one.p.Receive(now, m), x.twin.p.Receive(now, m); got != want {
			x.fail(got, want)
		}
	}
}

// step is one of both.
func (x *pair) step(now int) []api.Message {
	x.t.Helper()
	x.past = append(x.past, call{"Step", now, nil})
	got, want := x.one.p.Step(now), x.twin.p.Step(now)
	if !slices.EqualFunc(got, want, same) {
		x.fail(got, want)
	}
	return got
}

// arm lets the power of both go off at an action.
func (x *pair) arm(n int) {
	x.past = append(x.past, call{"Arm", n, nil})
	x.one.d.Arm(n)
	x.twin.d.Arm(n)
}

// contents is the files of a disk.
func contents(d *disk.Disk) string {
	s := fmt.Sprint(d.Acts(), d.Off())
	for _, f := range d.List() {
		bytes, _ := d.Read(f)
		s += f + ":" + bytes
	}
	return s
}

// works are the IDs of workloads that the tests use, and some that no workload has.
func works() []string { return []string{"a", "b", "c", "web", "z", ""} }

// isSo tells if the two are not the same in all that they answer.
func (x *pair) isSo() {
	x.t.Helper()
	one, twin := x.one, x.twin
	for c := -1; c <= 3; c++ {
		for _, w := range works() {
			if got, want := one.p.Held(c, w), twin.p.Held(c, w); got != want {
				x.fail(got, want)
			}
		}
		for _, now := range []int{-last, 0, 10, 11, 30, last} {
			if got, want := one.p.Up(now, c), twin.p.Up(now, c); got != want {
				x.fail(got, want)
			}
		}
		got, there := one.p.Seen(c)
		if want, thereToo := twin.p.Seen(c); there != thereToo || !same(got, want) {
			x.fail(got, want)
		}
	}
	if got, want := one.p.State(), twin.p.State(); !sameState(got, want) {
		x.fail(got, want)
	}
	if got, want := one.s.Error(), twin.s.Error(); got != want {
		x.fail(got, want)
	}
	if got, want := contents(one.d), contents(twin.d); got != want {
		x.fail(brief(got), brief(want))
	}
}

// is tells if Serve answers anything else.
func (x *pair) is(asked string, want ...byte) {
	x.t.Helper()
	if got := x.serve(asked); got != string(want) {
		x.t.Errorf("Serve of %s is %s; not %q", brief(asked), brief(got), want)
	}
	x.isSo()
}

// Short forms for tables.

func bind(work, node string, count int) api.Bind {
	return api.Bind{Work: work, Node: node, Count: count}
}

func node(id string, cell, slots int) api.Op {
	return api.Op{Kind: 4, Node: api.Node{ID: id, Cell: cell, Slots: slots}}
}

func work(id string, want int) api.Op {
	return api.Op{Kind: 1, Work: api.Work{ID: id, Want: want, PerNode: 4, PerCell: 16}}
}

func named(kind int, id string) api.Op { return api.Op{Kind: kind, ID: id} }

func scale(id string, want int) api.Op { return api.Op{Kind: 2, ID: id, Want: want} }

// report is one of epoch 1.
func report(cell, boot, version, until int, l ...api.Bind) api.Message {
	return api.Message{Kind: 2, Cell: cell, Boot: boot, Epoch: 1, Version: version, Until: until, Binds: l}
}

func grant(cell int, l ...api.Bind) api.Message {
	return api.Message{Kind: 1, Cell: cell, Boot: 1, Epoch: 1, Version: 1, Until: 9, Binds: l}
}

// numbered is so many binds that ascend, with the longest names and the greatest Counts.
func numbered(many int) []api.Bind {
	var l []api.Bind
	for i := range many {
		l = append(l, bind("workloadxyz"+string(rune('a'+i/16)), "nodenodexyz"+string(rune('a'+i%16)), 1000))
	}
	return l
}

// longest is the report of a cell with the longest encoding.
func longest(cell int) api.Message {
	return api.Message{Kind: 2, Cell: cell, Boot: last, Epoch: last, Version: last, Until: lastUntil, Binds: numbered(64)}
}

// The chapter's examples, and what it says of Status and of no placer.

// R1: the chapter's examples.
func TestTheExamples(t *testing.T) {
	x := begin(t)
	x.is("\x12", 0)
	x.is("", 144, 3)
	if got := request.Status(); got != string([]byte{18}) {
		t.Errorf("Status is %q", got)
	}
	if e, l, ok := request.Read("\x00"); e != api.OK || len(l) != 0 || !ok {
		t.Error(e, l, ok)
	}
	if e, l, ok := request.Read("\x90\x03"); e != 200 || len(l) != 0 || !ok {
		t.Error(e, l, ok)
	}
}

// R1: without a placer there is no answer, whatever was asked.
func TestNoPlacer(t *testing.T) {
	texts := append(someTexts(), "", request.Status(), "\x00", "\x90\x03", "junk", strings.Repeat("\xff", 1000))
	for _, o := range someOps() {
		texts = append(texts, put(o))
	}
	for _, s := range texts {
		if got := request.Serve(nil, s); got != "" {
			t.Errorf("Serve of %s without a placer is %s", brief(s), brief(got))
		}
		var none *placer.Placer
		if got := request.Serve(none, s); got != "" {
			t.Errorf("Serve of %s without a placer is %s", brief(s), brief(got))
		}
	}
	if got := request.Serve(placer.New(nil, 0), "\x12"); got != "" {
		t.Errorf("Serve of a placer without a store is %q", got)
	}
	if e, l, ok := request.Read(""); e != api.OK || len(l) != 0 || ok {
		t.Error(e, l, ok)
	}
}

// Operations.

// someOps are valid operations of each kind, and others.
func someOps() []api.Op {
	w := api.Work{ID: "web", Want: 16, Prio: 9, PerNode: 16, PerCell: 16, Selector: "zone=a,!gpu,disk!=ssd,x"}
	n := api.Node{ID: "n", Cell: 2, Slots: 4, Labels: "disk=ssd,zone=a", Cordoned: true}
	all := []api.Op{{Kind: 1, Work: w}, {Kind: 4, Node: n}, work("a", 0), work("abcdefghijkl", 3), node("n", 0, 0), node("m", 1, 4)}
	for _, id := range []string{"a", "n", "web", "m", "abcdefghijkl", "0", "", "A", "abcdefghijklm", "a b", "\x00"} {
		for kind := range 10 {
			all = append(all, named(kind, id))
		}
		all = append(all, scale(id, 1), scale(id, 16), scale(id, 17), scale(id, -1))
	}
	for _, n := range []int{-1, 0, 1, 2, 3, 4, 5, 9, 10, 16, 17, 99, math.MinInt, math.MaxInt} {
		a, b, c, d, e, f := work("a", n), work("a", 1), work("a", 1), work("a", 1), node("n", n, 1), node("n", 1, n)
		b.Work.Prio, c.Work.PerNode, d.Work.PerCell = n, n, n
		all = append(all, a, b, c, d, e, f)
	}
	for _, s := range []string{"", "a", "!a", "a=b", "a!=b", "a,b,c,d", "a,b,c,d,e", ",", "a=", "=a", "!a=b", "b=c,a=b", "a=b,b=c", "a=b,a=b", "A", " "} {
		a, b := work("a", 1), node("n", 1, 1)
		a.Work.Selector, b.Node.Labels = s, s
		all = append(all, a, b)
	}
	return all
}

// R1, R3: each operation of a list, by itself, behind others and twice.
func TestOperations(t *testing.T) {
	asked, valid := begin(t), 0
	for _, o := range someOps() {
		begin(t, o, o)
		begin(t, work("a", 3), node("n", 0, 2), o, o)
		e := asked.asks(o)
		asked.isSo()
		if valid += oneIf(e != 200); (e == 200) != (!isOp(o) || o.Kind == 8) {
			t.Errorf("the answer to %v: %d", o, e)
		}
		if s, errno := intent.PutOp(o); errno == api.OK && s != put(o) {
			t.Errorf("PutOp of %v is %q; not %q", o, s, put(o))
		}
	}
	if valid < 60 || valid > len(someOps())-60 {
		t.Error(valid, "of", len(someOps()), "are requests")
	}
}

func oneIf(yes bool) int {
	if yes {
		return 1
	}
	return 0
}

// R1, R3: what each kind of operation is answered, in order, byte by byte, and what there is then.
func TestWhatIsAnswered(t *testing.T) {
	x := begin(t)
	for i, c := range []struct {
		asked, answer string
		works, nodes  int
	}{
		{"\x02\x02a\x06\x00\x02\x02\x00", "\x00", 1, 0},                 // submit a, which wants 3
		{"\x02\x02a\x06\x00\x02\x02\x00", "\xf2\x01", 1, 0},             // 121
		{"\x02\x02b\x06\x00\x02\x02\x00", "\x00", 2, 0},                 // b
		{"\x04\x02a\x20", "\x00", 2, 0},                                 // scale a to 16
		{"\x04\x02a\x22", "\x90\x03", 2, 0},                             // to 17: no request
		{"\x04\x02c\x20", "\xf4\x01", 2, 0},                             // c: 122
		{"\x06\x02b", "\x00", 1, 0},                                     // delete b
		{"\x06\x02b", "\xf4\x01", 1, 0},                                 // 122
		{"\x08\x02n\x00\x04\x06a=b\x00", "\x00", 1, 1},                  // add n
		{"\x08\x02n\x00\x04\x06a=b\x02", "\xf2\x01", 1, 1},              // 121
		{"\x08\x02n\x00\x04\x06a=b\x04", "\x90\x03", 1, 1},              // neither cordoned nor not
		{"\x08\x02m\x02\x04\x00\x02", "\x00", 1, 2},                     // add m, cordoned
		{"\x0c\x02n", "\x00", 1, 2},                                     // cordon n
		{"\x0c\x02n", "\x00", 1, 2},                                     // again
		{"\x0e\x02n", "\x00", 1, 2},                                     // uncordon n
		{"\x0c\x02o", "\xf4\x01", 1, 2},                                 // o: 122
		{"\x0e\x02o", "\xf4\x01", 1, 2},                                 // 122
		{"\x0a\x02o", "\xf4\x01", 1, 2},                                 // remove o: 122
		{"\x0a\x02m", "\x00", 1, 1},                                     // m
		{"\x10", "\x90\x03", 1, 1},                                      // OpEpoch
		{"\x12", "\x00", 1, 1},                                          // what the cells have told
		{"\x14", "\x90\x03", 1, 1},                                      // Num of 10
		{"\x06\x02a", "\x00", 0, 1},                                     // delete a
		{"\x0a\x02n", "\x00", 0, 0},                                     // remove n
		{"\x02\x02a\x06\x00\x02\x02\x0a!a,!b", "\x00", 1, 0},            // a anew, with a selector
		{"\x02\x02c\x06\x00\x02\x02\x0a!a,!B", "\x90\x03", 1, 0},        // which is none
		{"\x02\x18abcdefghijkl\x06\x00\x02\x02\x00", "\x00", 2, 0},      // the longest name
		{"\x02\x1aabcdefghijklm\x06\x00\x02\x02\x00", "\x90\x03", 2, 0}, // too long a one
	} {
		if got := x.serve(c.asked); got != c.answer {
			t.Errorf("%d: %q", i, got)
		}
		x.isSo()
		if s := x.one.p.State(); len(s.Works) != c.works || len(s.Nodes) != c.nodes || s.Epoch != 1 {
			t.Error(i, s)
		}
	}
}

// R1, R3: no room for a ninth workload or node.
func TestFull(t *testing.T) {
	x := begin(t)
	for i := range 10 {
		id := string(rune('a' + i))
		want := api.Errno(0)
		if i >= 8 {
			want = 123
		}
		if e, f := x.asks(work(id, i)), x.asks(node(id, i%3, i%5)); e != want || f != want {
			t.Error(i, e, f)
		}
		if e, f := x.asks(work("a", 1)), x.asks(node("a", 1, 1)); e != 121 || f != 121 {
			t.Error(i, e, f)
		}
		x.isSo()
	}
	x.is(put(work("i", 1)), 246, 1)
}

// What is no request.

// changed are texts that differ from one a little: without some of its end or a byte, with one more, with another one, and some bytes behind it.
func changed(s string) []string {
	all := []string{s + s, s + "\x00", s + "\x12", "\x12" + s, "\x00" + s, s + "junk"}
	for i := range len(s) {
		all = append(all, s[:i], s[i:], s[:i]+s[i+1:], s[:i]+"\x00"+s[i:], s[:i]+s[i:i+1]+s[i:])
		for _, b := range []byte{0, 1, 2, 16, 18, 'a', 'z', 127, 128, 255, s[i] + 1, s[i] - 1, s[i] ^ 128, s[i] + 2, s[i] - 2} {
			all = append(all, s[:i]+string([]byte{b})+s[i+1:])
		}
		// The same number with a superfluous zero digit, if there is one.
		all = append(all, s[:i]+string([]byte{s[i] | 128, 0})+s[i+1:])
	}
	return all
}

// R1, R3: texts that are almost requests, or are others.
func TestAlmostRequests(t *testing.T) {
	n := api.Op{Kind: 4, Node: api.Node{ID: "n", Cell: 1, Slots: 2, Labels: "a=b,c=d", Cordoned: true}}
	w := api.Op{Kind: 1, Work: api.Work{ID: "ab", Want: 16, Prio: 2, PerNode: 3, PerCell: 4, Selector: "a=b,!c"}}
	requests, others := 0, 0
	for _, o := range []api.Op{n, w, scale("a", 5), named(3, "a"), named(5, "n"), named(6, "n"), named(7, "n"), named(8, ""), named(9, "a")} {
		x := begin(t, work("a", 1), node("m", 0, 1))
		for _, s := range append(changed(put(o)), put(o)) {
			got := x.serve(s)
			kind, _ := requestIn(s)
			requests, others = requests+oneIf(kind != isNone), others+oneIf(kind == isNone)
			if (got == "\x90\x03") != (kind == isNone) {
				t.Errorf("the answer to %q: %q", s, got)
			}
		}
		x.isSo()
	}
	if requests < 100 || others < 900 {
		t.Error(requests, "requests,", others, "other texts")
	}
}

// R1: the encodings of other things, also answers, are no requests, and the status request is nothing but the byte 18.
func TestNoRequests(t *testing.T) {
	x := begin(t, work("a", 1), node("n", 0, 1))
	state, _ := intent.PutState(x.one.p.State())
	texts := []string{
		"\x92\x00", "\x92\x80\x00", "\x12\x12", "\x12\x00", "\x00\x12", "\x12\x02a", "\x91", "\x11", "\x13", "9", " \x12", "\x12\n", "status",
		"\x10", "\x90\x00", "\x10\x00", "\x10\x10", "\x10\x02a", "\x90\x80\x80\x00",
		"\x00", "\x02", "\x04", "\x06", "\x08", "\x0a", "\x0c", "\x0e", "\x90\x03", "\xf2\x01",
		"\x86\x00\x02a", "\x06\x82\x00a", "\x06\x00", "\x06\x01", "\x06\x04a", "\x06\x02A", "\x06\x02a\x00",
		state, told(report(0, 1, 2, 3)), laid(report(0, 1, 2, 3)), laid(grant(1)), framed(put(named(3, "a"))), text(put(named(3, "a"))),
		num(math.MaxInt), num(math.MinInt), num(1 << 32), num(1<<32 + 9), num(1<<8 + 9), num(-9), num(-10),
		num(1<<32+3) + "\x02a", num(1<<8+3) + "\x02a", num(-3) + "\x02a", num(-4) + "\x02a",
		"\x06" + num(math.MaxInt) + "a", "\x06" + num(math.MinInt) + "a", "\x06" + num(-1) + "a", "\x06" + num(1<<32+1) + "a",
		"\x04\x02a" + num(1<<32+1), "\x04\x02a" + num(math.MaxInt), "\x04\x02a" + num(-1),
	}
	for _, s := range texts {
		x.is(s, 144, 3)
	}
	if s := x.one.p.State(); len(s.Works) != 1 || len(s.Nodes) != 1 || s.Epoch != 1 || x.one.p.Do(named(3, "a")) != api.OK {
		t.Error(s)
	}
}

// R1, R3: all texts of one and of two bytes, and those of three bytes that begin with small numbers.
func TestShortTexts(t *testing.T) {
	x := begin(t, work("a", 1), node("n", 0, 1))
	x.receive(0, report(1, 1, 0, 0))
	status := "\x00" + text(laid(report(1, 1, 0, 0)))
	deletes := 0
	ask := func(s string) {
		got := request.Serve(x.one.p, s)
		if want := x.twin.answer(s); got != want {
			t.Errorf("Serve of %q is %q; not %q", s, got, want)
		}
		if got != "\x90\x03" && got != "\xf4\x01" && got != "\x00" && (got != status || s != "\x12") {
			t.Errorf("Serve of %q is %q", s, got)
		}
		deletes += oneIf(len(s) == 3 && got != "\x90\x03")
	}
	for a := range 256 {
		ask(string([]byte{byte(a)}))
		for b := range 256 {
			ask(string([]byte{byte(a), byte(b)}))
			for c := range 256 {
				if a < 20 && b < 6 {
					ask(string([]byte{byte(a), byte(b), byte(c)}))
				}
			}
		}
	}
	x.isSo()
	if deletes != 4*36 {
		t.Error(deletes, "requests of three bytes")
	}
}

// someTexts are requests and almost requests.
func someTexts() []string {
	var all []string
	for _, o := range []api.Op{node("n", 1, 2), work("ab", 3), scale("a", 5), named(3, "a"), named(8, "")} {
		all = append(all, changed(put(o))...)
	}
	return all
}

// randomText is a text of bytes that requests and answers have, or of any.
func randomText(random *rand.Rand) string {
	common := []byte{0, 1, 2, 3, 4, 6, 8, 10, 12, 14, 16, 18, 20, 128, 'a', 'b', 'n', '=', ',', '!'}
	var s []byte
	for range random.Intn(12) {
		if random.Intn(5) == 0 {
			s = append(s, byte(random.Intn(256)))
		} else {
			s = append(s, common[random.Intn(len(common))])
		}
	}
	return string(s)
}

// R1, R3: any texts are answered, and Read accepts each answer.
func TestAnyText(t *testing.T) {
	t.Parallel()
	random := rand.New(rand.NewSource(1))
	x := begin(t, work("a", 3), node("n", 1, 2))
	x.receive(0, report(0, 1, 0, 0), report(2, 5, 6, 7, bind("a", "n", 2)))
	requests := 0
	for i := range 100000 {
		s := randomText(random)
		x.past = nil
		requests += oneIf(x.serve(s) != "\x90\x03")
		if checkRead(t, s); i%1000 == 0 {
			x.isSo()
		}
	}
	if x.isSo(); requests < 300 {
		t.Error("only", requests, "requests")
	}
}

// The answer to the status request.

// R1: which reports it contains: those of all cells that told anything, in the order of the cells, whatever came first.
func TestStatusAnswer(t *testing.T) {
	reports := [3]api.Message{report(0, 1, 0, 0), report(1, 2, 3, -4, bind("a", "n", 2)), report(2, 0, last, lastUntil, numbered(64)...)}
	orders := [][]int{{}, {0}, {1}, {2}, {0, 1}, {1, 0}, {0, 2}, {2, 0}, {1, 2}, {2, 1}, {0, 1, 2}, {0, 2, 1}, {1, 0, 2}, {1, 2, 0}, {2, 0, 1}, {2, 1, 0}}
	for _, order := range orders {
		x := begin(t)
		for i, c := range order {
			x.receive(i, reports[c])
		}
		want := "\x00"
		for _, c := range slices.Sorted(slices.Values(order)) {
			want += text(laid(reports[c]))
		}
		for range 3 {
			x.is(request.Status(), []byte(want)...)
		}
	}
}

// R1: the reports are encoded as chapter 16 says, byte by byte.
func TestStatusBytes(t *testing.T) {
	x := begin(t)
	x.receive(0, api.Message{Kind: 2, Cell: 1, Boot: 2, Epoch: 1, Version: 4, Until: 5, Binds: []api.Bind{bind("a", "n", 3)}})
	want := "\x00" + "\x22" + "\x18" + "\x04\x02\x04\x02\x08\x0a\x02" + "\x02a" + "\x02n" + "\x06"
	sum := adler32.Checksum([]byte(want[2:]))
	x.is("\x12", append([]byte(want), byte(sum>>24), byte(sum>>16), byte(sum>>8), byte(sum))...)
	r := read(x.serve("\x12"))
	if len(r.reports) != 1 || !same(r.reports[0], report(1, 2, 4, 5, bind("a", "n", 3))) || r.errno != 0 || !r.ok {
		t.Error(r)
	}
}

// told tells if the status request is answered anything but these reports.
func (x *pair) told(l ...api.Message) {
	x.t.Helper()
	if got := x.serve("\x12"); got != told(l...) {
		x.t.Errorf("told are %v; not %v", read(got), l)
	}
	if r := read(x.serve(request.Status())); !r.equals(reading{reports: l, ok: true}) {
		x.t.Errorf("told are %v; not %v", r, l)
	}
}

// R1, R3: the last report is told, also one that the placer refuses; grants, and what is no message, are never told, nor is anything that the placer sent.
func TestWhatIsTold(t *testing.T) {
	x := begin(t, work("a", 3), node("n", 0, 2))
	first, second, third := report(0, 1, 0, 0), report(0, 1, 1, 20, bind("a", "n", 2)), report(0, 2, 0, 0)
	late, early := report(1, 5, 7, 3), api.Message{Kind: 2, Cell: 1, Boot: 6, Epoch: 9, Version: 1}
	x.told()
	x.step(0)
	x.told()
	x.receive(1, grant(0), grant(1, bind("a", "n", 1)), api.Message{}, api.Message{Kind: 2, Cell: 3}, api.Message{Kind: 2, Cell: -1}, report(0, -1, 0, 0), report(1, last+1, 0, 0))
	x.told()
	x.receive(1, first)
	x.told(first)
	x.step(1)
	x.told(first)
	x.receive(2, second)
	x.told(second)
	x.receive(2, first)
	x.told(second)
	x.receive(3, late)
	x.told(second, late)
	x.receive(3, third, early)
	x.told(third, early)
	x.receive(4, second, late)
	x.told(third, early)
	x.step(last)
	x.told(third, early)
	x.asks(named(5, "n"))
	x.asks(named(3, "a"))
	x.told(third, early)
	x.receive(5, api.Message{Kind: 2, Cell: 2, Boot: 1})
	x.told(third, early, api.Message{Kind: 2, Cell: 2, Boot: 1})
	x.start(6)
	x.told()
}

// R1, R2: the longest reports there are.
func TestLongestReports(t *testing.T) {
	x := begin(t)
	x.receive(0, longest(2))
	x.told(longest(2))
	x.receive(0, longest(1), longest(0))
	x.told(longest(0), longest(1), longest(2))
	least := api.Message{Kind: 2, Until: -lastUntil}
	y := begin(t)
	y.receive(0, least)
	y.told(least)
}

// The store's failures.

// R1: the error of a store whose power goes off at any action; it stays, but what is no request, and the status request, are answered as ever.
func TestPowerOff(t *testing.T) {
	ops := []api.Op{work("a", 3), node("n", 0, 2), scale("a", 2), named(6, "n"), named(7, "n"), work("b", 1), named(3, "b"), node("m", 1, 1), named(5, "m")}
	for at := 1; at <= 30; at++ {
		x := begin(t)
		x.receive(0, report(2, 1, 0, 0))
		x.arm(at)
		off := false
		for _, o := range ops {
			e := x.asks(o)
			if x.isSo(); (e == 100) != x.one.d.Off() && !(e == 0 && !off) {
				t.Error(at, o, e)
			}
			off = x.one.d.Off()
			x.told(report(2, 1, 0, 0))
			x.is("", 144, 3)
			x.is("\x10", 144, 3)
		}
		if off {
			before := x.one.p.State()
			x.is("\x06\x02z", 200, 1)
			x.is("\x06\x02a", 200, 1)
			x.is(put(work("c", 1)), 200, 1)
			x.is("\x06\x02A", 144, 3)
			if !sameState(x.one.p.State(), before) {
				t.Error(x.one.p.State(), before)
			}
			x.receive(1, report(0, 1, 2, 3))
			x.told(report(0, 1, 2, 3), report(2, 1, 0, 0))
			x.one.d.Restart(nil)
			x.twin.d.Restart(nil)
			x.is("\x06\x02a", 200, 1)
			x.start(2)
			x.told()
			x.asks(work("c", 1))
			x.isSo()
		} else if at <= 22 {
			t.Error("the power is not off at", at)
		}
	}
}

// onDisk puts a checkpoint with a number on a disk.
func onDisk(number int, s api.State) *disk.Disk {
	laidState, _ := intent.PutState(s)
	d := disk.New()
	d.Append("snap", framed(num(number)+laidState))
	d.Sync("snap")
	return d
}

// R1: the other errors that the placer's Do can return: no numbers for further records, and no room on the disk.
func TestOtherErrors(t *testing.T) {
	state := api.State{Epoch: 0, Works: []api.Work{work("a", 1).Work}}
	x := beginOn(t, onDisk(last-2, state), onDisk(last-2, state))
	x.is(put(scale("a", 2)), 0)
	x.is(put(scale("a", 3)), 222, 1)
	x.is(put(work("a", 3)), 242, 1)
	x.is("\x10", 144, 3)
	x.told()
	y := begin(t, work("a", 1))
	for _, d := range []*disk.Disk{y.one.d, y.twin.d} {
		d.Append("x", strings.Repeat("x", 65536))
		d.Rename("x", "log")
	}
	y.is(put(scale("b", 2)), 244, 1)
	y.is(put(scale("a", 2)), 204, 1)
	y.is(put(scale("b", 2)), 204, 1)
	y.is("\x10", 144, 3)
	y.told()
}

// Read.

// R2: all errors, alone and with bytes behind them; other numbers are none.
func TestErrorsInAnswers(t *testing.T) {
	numbers := []int{math.MinInt, math.MinInt + 200, math.MaxInt, math.MaxInt - 1, 1<<32 + 200, 1<<32 + 1000, 1<<16 + 1, 1<<10 + 1, -1 << 32, 1 << 63 >> 1}
	for e := -2100; e <= 2100; e++ {
		numbers = append(numbers, e)
	}
	accepted := 0
	for _, e := range numbers {
		s := num(e)
		accepted += oneIf(checkRead(t, s))
		if errno, l, ok := request.Read(s); isBetween(e, 0, 1000) && (errno != api.Errno(e) || len(l) > 0 || !ok) {
			t.Errorf("Read of Num of %d is %v, %v, %v", e, errno, l, ok)
		}
		for _, more := range []string{"\x00", "\x12", "\x02a", num(e), "junk", text(laid(report(0, 1, 2, 3))), text(laid(grant(0)))} {
			if ok := checkRead(t, s+more); ok && (e != 0 || more != text(laid(report(0, 1, 2, 3)))) {
				t.Errorf("Read accepts %d and %q", e, more)
			}
		}
		checkRead(t, s[:len(s)-1])
		checkRead(t, s[:len(s)-1]+string([]byte{s[len(s)-1] | 128, 0}))
	}
	if accepted != 1001 {
		t.Error(accepted, "errors are accepted")
	}
	for _, s := range []string{"", "\x80", "\x80\x00", "\x90", "\x90\x83", "\x90\x83\x00", "\xff\xff\xff\xff\xff\xff\xff\xff\xff\xff\x01", strings.Repeat("\xff", 9) + "\x02", strings.Repeat("\x80", 20)} {
		if checkRead(t, s) {
			t.Errorf("Read accepts %q", s)
		}
	}
}

// lists calls do with all lists of some of n things, each any number of times, up to a length.
func lists(n, most int, do func(list []int)) {
	var grow func(list []int)
	grow = func(list []int) {
		do(list)
		for i := 0; i < n && len(list) < most; i++ {
			grow(append(slices.Clone(list), i))
		}
	}
	grow(nil)
}

// R2: all lists of up to four parts, right or wrong: reports of each cell, grants, messages that are not valid, and what is no message.
func TestAllLists(t *testing.T) {
	t.Parallel()
	wrong := report(1, 1, 1, 1, bind("b", "n", 1), bind("a", "n", 1))
	parts := []string{
		text(laid(report(0, 1, 2, 3))), text(laid(report(1, 9, 2, 3, bind("a", "n", 1)))), text(laid(report(2, 0, 0, 0))), text(laid(report(1, 1, 0, 0))), text(laid(longest(0))),
		text(laid(grant(0))), text(laid(grant(2))), text(laid(report(3, 0, 0, 0))), text(laid(report(-1, 0, 0, 0))), text(laid(wrong)),
		"\x00", "\x02a", "\x7f", laid(report(0, 1, 2, 3)), text(laid(report(2, 0, 0, 0)) + laid(report(2, 0, 0, 0))), text(payloadOf(report(1, 0, 0, 0))),
	}
	accepted := 0
	lists(len(parts), 4, func(list []int) {
		s := "\x00"
		for _, i := range list {
			s += parts[i]
		}
		accepted += oneIf(checkRead(t, s))
	})
	// Cell 0 and cell 1 have two reports each, cell 2 has one: each of them, or none.
	if accepted != 3*3*2 {
		t.Error(accepted, "lists are accepted")
	}
}

// R2: reports of cells that do not ascend, one by one; the same report twice is one too many, and so is a fourth one.
func TestCellsAscend(t *testing.T) {
	lists(3, 5, func(cells []int) {
		var l []api.Message
		ascends := true
		for i, c := range cells {
			l = append(l, report(c, i, 5-i, 0))
			ascends = ascends && (i == 0 || cells[i-1] < c)
		}
		if e, got, ok := request.Read(told(l...)); ok != ascends || e != api.OK || ok && !slices.EqualFunc(got, l, same) || !ok && len(got) > 0 {
			t.Error(cells, e, got, ok)
		}
	})
}

// R2: a report with each field at its limits and beyond them, and with more binds than there may be.
func TestReportsInAnswers(t *testing.T) {
	accepted := 0
	check := func(m api.Message) {
		t.Helper()
		for _, s := range []string{told(m), told(report(0, 0, 0, 0), m), told(m, report(2, 0, 0, 0))} {
			accepted += oneIf(checkRead(t, s))
		}
	}
	for _, n := range []int{math.MinInt, -lastUntil - 1, -lastUntil, -last, -2, -1, 0, 1, 2, 3, last - 1, last, last + 1, lastUntil, lastUntil + 1, math.MaxInt} {
		for field := range 6 {
			m := report(1, 5, 6, 7, bind("a", "m", 1), bind("a", "n", 2), bind("b", "m", 1000))
			*[]*int{&m.Kind, &m.Cell, &m.Boot, &m.Epoch, &m.Version, &m.Until}[field] = n
			check(m)
		}
	}
	for _, count := range []int{math.MinInt, -1, 0, 1, 2, 999, 1000, 1001, math.MaxInt} {
		check(report(1, 0, 0, 0, bind("a", "m", count)))
		check(report(1, 0, 0, 0, bind("a", "m", 1), bind("a", "n", count)))
	}
	for _, id := range []string{"", "a", "z9", "abcdefghijkl", "abcdefghijklm", "A", "a b", "\x00", "!a"} {
		check(report(1, 0, 0, 0, bind(id, "m", 1)))
		check(report(1, 0, 0, 0, bind("m", id, 1)))
		check(report(1, 0, 0, 0, bind("m", "m", 1), bind(id, "n", 1)))
		check(report(1, 0, 0, 0, bind("m", "m", 1), bind("m", id, 1)))
	}
	for many := range 70 {
		check(report(1, 0, 0, 0, numbered(many)...))
	}
	if accepted < 200 {
		t.Error("only", accepted, "answers are accepted")
	}
}

// R2: texts of around 4200 bytes, none of which is the encoding of a report, also if it is the frame of bytes that begin with those of one.
func TestLongTexts(t *testing.T) {
	if long := len(laid(longest(0))); long > 4200 {
		t.Error("a report has", long, "bytes")
	}
	for _, long := range []int{0, 1, 4095, 4096, 4097, 4102, 4103, 4199, 4200, 4201, 5000, 65536} {
		behind := strings.Repeat("\x00", long)
		for _, s := range []string{text(behind), text(framed(behind)), text(laid(report(0, 1, 2, 3)) + behind), text(framed(payloadOf(report(0, 1, 2, 3)) + behind)), text(laid(report(0, 1, 2, 3))) + text(behind)} {
			if ok := checkRead(t, "\x00"+s); ok && s != text(laid(report(0, 1, 2, 3))) {
				t.Errorf("Read accepts %s", brief(s))
			}
		}
	}
	for _, long := range []int{-1, math.MinInt, math.MaxInt, 1 << 31, 1 << 32, 1<<32 + len(laid(report(0, 1, 2, 3))), 4200, 4201} {
		if s := "\x00" + num(long) + laid(report(0, 1, 2, 3)); checkRead(t, s) {
			t.Errorf("Read accepts %q", s)
		}
	}
}

// someAnswers are answers of each kind.
func someAnswers() []string {
	return []string{
		"\x00", num(1), num(123), "\x90\x03", num(1000),
		told(report(0, 1, 2, 3)), told(report(2, 64, 8192, -65, bind("a", "n", 5))),
		told(report(0, 1, 2, 3), report(1, 0, 0, 0, bind("a", "m", 1), bind("b", "m", 2))),
		told(report(0, 0, 0, 0), report(1, 1, 1, 1), report(2, 2, 2, 2)), told(report(0, last, last, -lastUntil), report(1, 1, 1, 1), longest(2)),
	}
}

// R2: answers that are changed a little.
func TestAlmostAnswers(t *testing.T) {
	t.Parallel()
	all, accepted := 0, 0
	for _, s := range someAnswers() {
		if !checkRead(t, s) {
			t.Errorf("Read refuses %s", brief(s))
		}
		for _, other := range changed(s) {
			all, accepted = all+1, accepted+oneIf(checkRead(t, other))
		}
		for _, other := range someAnswers() {
			checkRead(t, s+other)
			checkRead(t, s+other[1:])
		}
	}
	if accepted < 50 || all-accepted < 10000 {
		t.Error(accepted, "of", all, "are accepted")
	}
}

// R2: a report of which one byte was changed is none; nor is one with all other bytes right but another checksum.
func TestSpoiledReports(t *testing.T) {
	s := told(report(0, 1, 2, 3, bind("a", "n", 5)), report(1, 2, 3, 4))
	for i := range len(s) {
		for b := range 256 {
			other := s[:i] + string([]byte{byte(b)}) + s[i+1:]
			if _, l, ok := request.Read(other); ok != (other == s) || ok != (len(l) == 2) {
				t.Errorf("Read of %q: %v, %v", other, l, ok)
			}
		}
	}
}

// R2: superfluous zero digits in any number of a payload, whose checksum is right.
func TestSuperfluousDigits(t *testing.T) {
	payload := payloadOf(report(1, 70, 3, 4, bind("a", "n", 5)))
	accepted := 0
	for i := range len(payload) {
		s := payload[:i] + string([]byte{payload[i] | 128, 0}) + payload[i+1:]
		accepted += oneIf(checkRead(t, "\x00"+text(framed(s))))
	}
	if accepted > 0 || !checkRead(t, "\x00"+text(framed(payload))) {
		t.Error(accepted)
	}
}

func randomBinds(random *rand.Rand) []api.Bind {
	var l []api.Bind
	for _, w := range []string{"a", "b", "web"} {
		for _, n := range []string{"m", "n"} {
			if random.Intn(3) == 0 {
				l = append(l, bind(w, n, 1+random.Intn(4)))
			}
		}
	}
	return l
}

// randomReport is one of any cell, of some epochs.
func randomReport(random *rand.Rand, epoch, now int) api.Message {
	return api.Message{Kind: 2, Cell: random.Intn(3), Boot: random.Intn(3), Epoch: max(0, epoch-random.Intn(2)), Version: random.Intn(5), Until: now + random.Intn(25), Binds: randomBinds(random)}
}

// R2: random lists of reports, most of them in order, and random bytes in them.
func TestRandomAnswers(t *testing.T) {
	t.Parallel()
	random := rand.New(rand.NewSource(2))
	all, accepted := 20000, 0
	for range all {
		var l []api.Message
		for c := range 3 {
			if m := randomReport(random, 5, 0); random.Intn(2) == 0 {
				if random.Intn(8) > 0 {
					m.Cell = c
				}
				if random.Intn(20) == 0 {
					m.Kind = 1
				}
				l = append(l, m)
			}
		}
		s := told(l...)
		if random.Intn(4) == 0 {
			i := random.Intn(len(s))
			s = s[:i] + string([]byte{byte(random.Intn(256))}) + s[i+1:]
		}
		accepted += oneIf(checkRead(t, s))
	}
	if accepted < all/4 || accepted > all*3/4 {
		t.Error(accepted, "are accepted")
	}
}

// The theorem.

// plain is what clients asked for, as plain maps.
type plain struct {
	works map[string]api.Work
	nodes map[string]api.Node
}

// does is the error of a valid operation, which is performed if there is none.
func (p plain) does(o api.Op) api.Errno {
	_, workThere := p.works[o.ID]
	_, nodeThere := p.nodes[o.ID]
	_, workTwice := p.works[o.Work.ID]
	_, nodeTwice := p.nodes[o.Node.ID]
	switch {
	case o.Kind == 1 && workTwice, o.Kind == 4 && nodeTwice:
		return 121
	case isBetween(o.Kind, 2, 3) && !workThere, isBetween(o.Kind, 5, 7) && !nodeThere:
		return 122
	case o.Kind == 1 && len(p.works) == 8, o.Kind == 4 && len(p.nodes) == 8:
		return 123
	}
	w, n := p.works[o.ID], p.nodes[o.ID]
	switch o.Kind {
	case 1:
		p.works[o.Work.ID] = o.Work
	case 2:
		w.Want = o.Want
		p.works[o.ID] = w
	case 3:
		delete(p.works, o.ID)
	case 4:
		p.nodes[o.Node.ID] = o.Node
	case 5:
		delete(p.nodes, o.ID)
	case 6, 7:
		n.Cordoned = o.Kind == 6
		p.nodes[o.ID] = n
	}
	return api.OK
}

// isIn reports whether a state has the same workloads and nodes.
func (p plain) isIn(s api.State) bool {
	for _, w := range s.Works {
		if p.works[w.ID] != w {
			return false
		}
	}
	for _, n := range s.Nodes {
		if p.nodes[n.ID] != n {
			return false
		}
	}
	return len(s.Works) == len(p.works) && len(s.Nodes) == len(p.nodes)
}

func randomOp(random *rand.Rand) api.Op {
	ids := []string{"a", "b", "c", "d", "e", "f", "g", "h", "i", "j"}
	id := ids[random.Intn(len(ids))]
	switch kind := []int{1, 1, 1, 1, 2, 2, 3, 4, 4, 4, 5, 6, 7, 8}[random.Intn(14)]; kind {
	case 1:
		return api.Op{Kind: 1, Work: api.Work{ID: id, Want: random.Intn(18), Prio: random.Intn(10), PerNode: 1 + random.Intn(4), PerCell: 1 + random.Intn(16), Selector: []string{"", "x", "!x=y", "x!=y"}[random.Intn(4)]}}
	case 2:
		return scale(id, random.Intn(18))
	case 4:
		return api.Op{Kind: 4, Node: api.Node{ID: id, Cell: random.Intn(3), Slots: random.Intn(5), Labels: []string{"", "x=y", "x=y,z=0", "x"}[random.Intn(4)], Cordoned: random.Intn(4) == 0}}
	default:
		return named(kind, id)
	}
}

// R3, P1: long random histories: every answer is that of plain maps, and the status request tells the latest report of each cell, nothing else.
func TestHistories(t *testing.T) {
	t.Parallel()
	for seed := range 60 {
		random := rand.New(rand.NewSource(int64(seed)))
		x, now := begin(t), 0
		p := plain{map[string]api.Work{}, map[string]api.Node{}}
		seen := map[int]api.Message{}
		for range 250 {
			switch random.Intn(6) {
			case 0:
				m := randomReport(random, x.one.p.State().Epoch, now)
				x.receive(now, m)
				if old, there := seen[m.Cell]; !there || slices.Compare([]int{m.Boot, m.Epoch, m.Version}, []int{old.Boot, old.Epoch, old.Version}) >= 0 {
					seen[m.Cell] = m
				}
			case 1:
				now += random.Intn(6)
				x.step(now)
			case 2:
				var want []api.Message
				for c := range 3 {
					if m, there := seen[c]; there {
						want = append(want, m)
					}
				}
				x.told(want...)
			case 3:
				x.serve(randomText(random))
			default:
				o := randomOp(random)
				want := api.Errno(200)
				if isOp(o) && o.Kind != 8 {
					want = p.does(o)
				}
				if e := x.asks(o); e != want || !p.isIn(x.one.p.State()) {
					x.fail(fmt.Sprint(e, x.one.p.State()), fmt.Sprint(want, p))
				}
			}
			if random.Intn(100) == 0 {
				x.start(now)
				clear(seen)
			}
		}
		x.isSo()
	}
}

// R3: what is no request, and the status request, change nothing, however often they are asked between the steps of a placer.
func TestNothingChanges(t *testing.T) {
	x := begin(t, work("a", 5), work("b", 2), node("m", 0, 3), node("n", 1, 4))
	nothing := append(someTexts(), "", "\x10", "\x12\x12", laid(report(0, 9, 9, 9)), told(report(0, 9, 9, 9)))
	nothing = slices.DeleteFunc(nothing, func(s string) bool { kind, _ := requestIn(s); return kind == isOperation })
	for now := range 60 {
		x.receive(now, report(0, 1, now/2, now+9, bind("a", "m", 2)), report(now%3, 1, now, now+10))
		x.isSo()
		for i, s := range nothing {
			if i%10 == now%10 {
				request.Serve(x.one.p, s)
			}
			request.Serve(x.one.p, "\x12")
		}
		x.isSo()
		x.step(now)
	}
	if acts := x.one.d.Acts(); acts != x.twin.d.Acts() {
		t.Error(acts)
	}
}

// The rules.

// Rule R1: very long texts, and numbers that tell of more than there is.
func TestHugeTexts(t *testing.T) {
	t.Parallel()
	x := begin(t, work("a", 1))
	x.receive(0, longest(1))
	const many = 1 << 22
	long := strings.Repeat("a", many)
	for _, s := range []string{
		long, strings.Repeat("\x00", many), strings.Repeat("\xff", many), strings.Repeat("\x12", many), strings.Repeat("\x02", many), strings.Repeat("\x80", many),
		"\x12" + long, "\x00" + long, "\x00" + text(long), num(200) + long, "\x06" + text(long), put(named(6, long)), put(work(long, 1)), put(node(long, 0, 0)),
		put(api.Op{Kind: 1, Work: api.Work{ID: "b", PerNode: 1, PerCell: 1, Selector: strings.Repeat("a,", many/2)}}),
		put(api.Op{Kind: 4, Node: api.Node{ID: "b", Labels: strings.Repeat("a=b,", many/4)}}),
		"\x00" + strings.Repeat(text(laid(report(0, 1, 2, 3))), 100000), "\x00" + strings.Repeat(told(report(0, 1, 2, 3), report(1, 1, 2, 3), report(2, 1, 2, 3))[1:], 10000),
	} {
		if got := request.Serve(x.one.p, s); got != "\x90\x03" {
			t.Errorf("Serve of %s is %s", brief(s), brief(got))
		}
		if got := read(s); !got.equals(reading{}) {
			t.Errorf("Read of %s is %v", brief(s), got)
		}
	}
	x.isSo()
	for range 3000 {
		if got := request.Serve(x.one.p, "\x12"); got != told(longest(1)) {
			t.Fatal(brief(got))
		}
	}
}

// lent is a text in memory that its owner changes later.
func lent(s string) (string, []byte) {
	own := []byte(s)
	return unsafe.String(unsafe.SliceData(own), len(own)), own
}

// Rule R3: the placer keeps what was asked, not the memory of the request; nor does an answer lie in it.
func TestArgumentsNotKept(t *testing.T) {
	w := api.Op{Kind: 1, Work: api.Work{ID: "web", Want: 3, PerNode: 1, PerCell: 1, Selector: "zone=a,!gpu"}}
	n := api.Op{Kind: 4, Node: api.Node{ID: "node", Slots: 2, Labels: "disk=ssd,zone=a"}}
	x := begin(t)
	x.receive(0, report(1, 1, 2, 3))
	for _, o := range []api.Op{w, n, scale("web", 5), named(6, "node"), named(8, ""), named(9, "")} {
		asked, own := lent(put(o))
		got, want := request.Serve(x.one.p, asked), x.twin.answer(put(o))
		if string(own) != put(o) {
			t.Errorf("%q is changed", own)
		}
		for i := range own {
			own[i] = '#'
		}
		if got != want {
			t.Errorf("the answer is %q; not %q", got, want)
		}
		x.isSo()
	}
	asked, own := lent("\x12")
	got := request.Serve(x.one.p, asked)
	own[0] = '#'
	if got != told(report(1, 1, 2, 3)) {
		t.Errorf("the answer is %q", got)
	}
	x.step(0)
}

// Rule R3: Read's reports don't lie in the answer.
func TestAnswersNotKept(t *testing.T) {
	for _, s := range someAnswers() {
		answer, own := lent(s)
		got := read(answer)
		if string(own) != s {
			t.Errorf("%q is changed", own)
		}
		for i := range own {
			own[i] = '#'
		}
		if want := readingOf(s); !got.equals(want) {
			t.Errorf("Read of %s is %v; not %v", brief(s), got, want)
		}
	}
}

// Rule R3: reports of one reading, of two, and of none share nothing, not even their spare capacity.
func TestReadingsApart(t *testing.T) {
	s := told(report(0, 1, 2, 3, bind("a", "n", 1)), report(1, 1, 2, 3, bind("b", "n", 1), bind("c", "n", 1)), report(2, 0, 0, 0, numbered(5)...))
	one, two := read(s), read(s)
	for i := range one.reports {
		b := one.reports[i].Binds
		b = b[:cap(b)]
		for j := range b {
			b[j] = bind("#", "#", -1)
		}
		for j, m := range one.reports[i+1:] {
			if want := readingOf(s).reports[i+1+j]; !same(m, want) {
				t.Errorf("%v; not %v", m, want)
			}
		}
	}
	all := one.reports[:cap(one.reports)]
	for i := range all {
		all[i] = api.Message{Kind: -1}
	}
	if want := readingOf(s); !two.equals(want) || !read(s).equals(want) {
		t.Errorf("%v; not %v", two, want)
	}
}

// Rule R3: what Read tells is not what the placer has.
func TestPlacersKeepTheirs(t *testing.T) {
	x := begin(t)
	x.receive(0, report(0, 1, 2, 3, bind("a", "n", 1)))
	answer := x.serve("\x12")
	r := read(answer)
	r.reports[0].Binds[0] = bind("#", "#", 9)
	x.isSo()
	x.receive(1, report(0, 1, 3, 4, bind("b", "n", 2)))
	if r := read(answer); len(r.reports) != 1 || !same(r.reports[0], report(0, 1, 2, 3, bind("a", "n", 1))) {
		t.Error(r)
	}
}

// Rule R4: placers are apart, and equal ones answer the same; Read and Status answer the same always.
func TestApart(t *testing.T) {
	x, y := begin(t), begin(t, work("a", 1))
	x.is(put(work("b", 1)), 0)
	y.is(put(scale("b", 1)), 244, 1)
	x.is(put(scale("a", 1)), 244, 1)
	x.receive(0, report(1, 1, 1, 1))
	y.told()
	x.told(report(1, 1, 1, 1))
	x.arm(1)
	x.is(put(work("c", 1)), 200, 1)
	y.is(put(work("c", 1)), 0)
	for range 3 {
		if request.Status() != "\x12" {
			t.Error("Status is another one")
		}
		for _, s := range someAnswers() {
			if !read(s).equals(readingOf(s)) {
				t.Errorf("Read of %s is %v", brief(s), read(s))
			}
		}
	}
}
