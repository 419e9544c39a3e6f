package intent_test

import (
	"encoding/binary"
	"maps"
	"math"
	"math/rand"
	"slices"
	"strings"
	"testing"
	"unsafe"

	"billet/api"
	"billet/intent"
	"billet/label"
)

// lastEpoch is the greatest Epoch of a valid state.
const lastEpoch = 1099511627776

// Short forms for tables: of operations, of workloads and of nodes.
func submit(w api.Work) api.Op          { return api.Op{Kind: 1, Work: w} }
func scale(id string, want int) api.Op  { return api.Op{Kind: 2, ID: id, Want: want} }
func add(n api.Node) api.Op             { return api.Op{Kind: 4, Node: n} }
func named(kind int, id string) api.Op  { return api.Op{Kind: kind, ID: id} }
func epoch() api.Op                     { return api.Op{Kind: 8} }
func work(id string, want int) api.Work { return workAs(id, want, "") }
func node(id string, isCordoned bool) api.Node {
	return api.Node{ID: id, Cell: 1, Slots: 2, Cordoned: isCordoned}
}

func workAs(id string, want int, selector string) api.Work {
	return api.Work{ID: id, Want: want, Prio: 3, PerNode: 2, PerCell: 5, Selector: selector}
}

// stateOf has these workloads and nodes.
func stateOf(epoch int, works []api.Work, nodes ...api.Node) api.State {
	return api.State{Epoch: epoch, Works: works, Nodes: nodes}
}

// worksOf and nodesOf have these IDs.
func worksOf(ids ...string) []api.Work {
	var all []api.Work
	for _, id := range ids {
		all = append(all, work(id, 1))
	}
	return all
}

func nodesOf(ids ...string) []api.Node {
	var all []api.Node
	for _, id := range ids {
		all = append(all, node(id, false))
	}
	return all
}

// twin is a copy of a state with lists of its own.
func twin(s api.State) api.State {
	s.Works, s.Nodes = slices.Clone(s.Works), slices.Clone(s.Nodes)
	return s
}

// same reports whether two states are equal.
func same(a, b api.State) bool {
	return a.Epoch == b.Epoch && slices.Equal(a.Works, b.Works) && slices.Equal(a.Nodes, b.Nodes)
}

// isBetween reports whether x is from low to high.
func isBetween(x, low, high int) bool {
	return low <= x && x <= high
}

// isWork and isNode are chapter 8's valid workloads and nodes.
func isWork(w api.Work) bool {
	numbers := isBetween(w.Want, 0, 16) && isBetween(w.Prio, 0, 9) && isBetween(w.PerNode, 1, 16) && isBetween(w.PerCell, 1, 16)
	return numbers && label.IsName(w.ID) && label.IsSelector(w.Selector)
}

func isNode(n api.Node) bool {
	return label.IsName(n.ID) && isBetween(n.Cell, 0, 2) && isBetween(n.Slots, 0, 4) && label.IsLabels(n.Labels)
}

// isRight is the chapter's valid state.
func isRight(s api.State) bool {
	for i, w := range s.Works {
		if !isWork(w) || i > 0 && s.Works[i-1].ID >= w.ID {
			return false
		}
	}
	for i, n := range s.Nodes {
		if !isNode(n) || i > 0 && s.Nodes[i-1].ID >= n.ID {
			return false
		}
	}
	return isBetween(s.Epoch, 0, lastEpoch) && len(s.Works) <= 8 && len(s.Nodes) <= 8
}

// isOp is the chapter's valid operation.
func isOp(o api.Op) bool {
	switch o.Kind {
	case 1:
		return isWork(o.Work)
	case 2:
		return label.IsName(o.ID) && isBetween(o.Want, 0, 16)
	case 4:
		return isNode(o.Node)
	case 3, 5, 6, 7:
		return label.IsName(o.ID)
	}
	return o.Kind == 8
}

// bare is an operation without the fields that its Kind does not use.
func bare(o api.Op) api.Op {
	switch o.Kind {
	case 1:
		return submit(o.Work)
	case 2:
		return scale(o.ID, o.Want)
	case 4:
		return add(o.Node)
	case 8:
		return epoch()
	}
	return named(o.Kind, o.ID)
}

// sorted is the values of a map in the order of its keys.
func sorted[T any](all map[string]T) []T {
	var list []T
	for _, id := range slices.Sorted(maps.Keys(all)) {
		list = append(list, all[id])
	}
	return list
}

// plain is a state as plain maps.
type plain struct {
	works map[string]api.Work
	nodes map[string]api.Node
}

func plainOf(s api.State) plain {
	p := plain{map[string]api.Work{}, map[string]api.Node{}}
	for _, w := range s.Works {
		p.works[w.ID] = w
	}
	for _, n := range s.Nodes {
		p.nodes[n.ID] = n
	}
	return p
}

// objection is the error of a valid operation on a valid state.
func (p plain) objection(o api.Op) api.Errno {
	_, workThere := p.works[o.ID]
	_, nodeThere := p.nodes[o.ID]
	_, workTwice := p.works[o.Work.ID]
	_, nodeTwice := p.nodes[o.Node.ID]
	switch {
	case o.Kind == 1 && workTwice, o.Kind == 4 && nodeTwice:
		return 121
	case isBetween(o.Kind, 2, 3) && !workThere, isBetween(o.Kind, 5, 7) && !nodeThere:
		return 122
	case o.Kind == 1 && len(p.works) == 8, o.Kind == 4 && len(p.nodes) == 8:
		return 123
	}
	return api.OK
}

// change performs an operation that has no objection.
func (p plain) change(o api.Op) {
	w, n := p.works[o.ID], p.nodes[o.ID]
	switch o.Kind {
	case 1:
		p.works[o.Work.ID] = o.Work
	case 2:
		w.Want = o.Want
		p.works[o.ID] = w
	case 3:
		delete(p.works, o.ID)
	case 4:
		p.nodes[o.Node.ID] = o.Node
	case 5:
		delete(p.nodes, o.ID)
	case 6, 7:
		n.Cordoned = o.Kind == 6
		p.nodes[o.ID] = n
	}
}

// apply is what the chapter says of Apply.
func apply(s api.State, o api.Op) (api.State, api.Errno) {
	if !isRight(s) || !isOp(o) || o.Kind == 8 && s.Epoch == lastEpoch {
		return api.State{}, 120
	}
	p := plainOf(s)
	if e := p.objection(o); e != api.OK {
		return api.State{}, e
	}
	p.change(o)
	if o.Kind == 8 {
		s.Epoch++
	}
	return stateOf(s.Epoch, sorted(p.works), sorted(p.nodes)...), api.OK
}

// num and text are chapter 1's encodings, by Go's library.
func num(n int) string {
	return string(binary.AppendVarint(nil, int64(n)))
}

func text(s string) string {
	return num(len(s)) + s
}

// laidWork, laidNode, laidOp and laidState are the chapter's encodings, also of what is not valid.
func laidWork(w api.Work) string {
	return text(w.ID) + num(w.Want) + num(w.Prio) + num(w.PerNode) + num(w.PerCell) + text(w.Selector)
}

func laidNode(n api.Node) string {
	s := text(n.ID) + num(n.Cell) + num(n.Slots) + text(n.Labels)
	if n.Cordoned {
		return s + num(1)
	}
	return s + num(0)
}

func laidOp(o api.Op) string {
	switch o.Kind {
	case 1:
		return num(1) + laidWork(o.Work)
	case 2:
		return num(2) + text(o.ID) + num(o.Want)
	case 4:
		return num(4) + laidNode(o.Node)
	case 8:
		return num(8)
	}
	return num(o.Kind) + text(o.ID)
}

func laidState(s api.State) string {
	out := num(s.Epoch) + num(len(s.Works))
	for _, w := range s.Works {
		out += laidWork(w)
	}
	out += num(len(s.Nodes))
	for _, n := range s.Nodes {
		out += laidNode(n)
	}
	return out
}

// source is a text that is read from its beginning; wrong tells that something was not what it should be.
type source struct {
	rest  string
	wrong bool
}

func (s *source) num() int {
	n, long := binary.Varint([]byte(s.rest[:min(len(s.rest), 20)]))
	if long <= 0 || num(int(n)) != s.rest[:long] {
		s.wrong = true
		return 0
	}
	s.rest = s.rest[long:]
	return int(n)
}

func (s *source) text() string {
	long := s.num()
	if s.wrong || !isBetween(long, 0, len(s.rest)) {
		s.wrong = true
		return ""
	}
	out := s.rest[:long]
	s.rest = s.rest[long:]
	return out
}

func (s *source) work() api.Work {
	w := api.Work{ID: s.text()}
	for _, n := range []*int{&w.Want, &w.Prio, &w.PerNode, &w.PerCell} {
		*n = s.num()
	}
	w.Selector = s.text()
	return w
}

func (s *source) node() api.Node {
	n := api.Node{ID: s.text()}
	n.Cell = s.num()
	n.Slots = s.num()
	n.Labels = s.text()
	bit := s.num()
	n.Cordoned, s.wrong = bit == 1, s.wrong || bit != 0 && bit != 1
	return n
}

// ended reports whether all was right and nothing is left.
func (s *source) ended() bool {
	return !s.wrong && s.rest == ""
}

// takenOp and takenState are what the chapter says of GetOp and GetState.
func takenOp(t string) (api.Op, api.Errno) {
	s := &source{rest: t}
	o := api.Op{Kind: s.num()}
	switch o.Kind {
	case 1:
		o.Work = s.work()
	case 2:
		o.ID = s.text()
		o.Want = s.num()
	case 4:
		o.Node = s.node()
	case 3, 5, 6, 7:
		o.ID = s.text()
	}
	if !s.ended() || !isOp(o) {
		return api.Op{}, 120
	}
	return o, api.OK
}

func takenState(t string) (api.State, api.Errno) {
	s := &source{rest: t}
	out := api.State{Epoch: s.num()}
	for many := s.num(); many > 0 && !s.wrong; many-- {
		out.Works = append(out.Works, s.work())
	}
	for many := s.num(); many > 0 && !s.wrong; many-- {
		out.Nodes = append(out.Nodes, s.node())
	}
	if !s.ended() || !isRight(out) || laidState(out) != t { // the numbers may be negative
		return api.State{}, 120
	}
	return out, api.OK
}

// checkState holds Right, PutState and GetState of a state against the chapter's words.
func checkState(t *testing.T, s api.State) {
	t.Helper()
	right, laid, errno := isRight(s), "", api.Errno(120)
	if right {
		laid, errno = laidState(s), api.OK
	}
	if got := intent.Right(s); got != right {
		t.Errorf("Right of %v is %v", s, got)
	}
	if got, e := intent.PutState(s); got != laid || e != errno {
		t.Errorf("PutState of %v is %q, %d; not %q, %d", s, got, e, laid, errno)
	}
	checkStateText(t, laidState(s))
	if got, e := intent.GetState(laid); right && (!same(got, s) || e != api.OK) {
		t.Errorf("GetState of PutState of %v is %v, %d", s, got, e)
	}
}

// checkOp holds PutOp and GetOp of an operation against the chapter's words.
func checkOp(t *testing.T, o api.Op) {
	t.Helper()
	laid, errno := "", api.Errno(120)
	if isOp(o) {
		laid, errno = laidOp(o), api.OK
	}
	if got, e := intent.PutOp(o); got != laid || e != errno {
		t.Errorf("PutOp of %v is %q, %d; not %q, %d", o, got, e, laid, errno)
	}
	checkOpText(t, laidOp(o))
	if got, e := intent.GetOp(laid); errno == api.OK && (got != bare(o) || e != api.OK) {
		t.Errorf("GetOp of PutOp of %v is %v, %d", o, got, e)
	}
}

// checkOpText and checkStateText hold GetOp and GetState of any text against the chapter's words, and the Put functions of what they answer.
func checkOpText(t *testing.T, s string) {
	t.Helper()
	got, e := intent.GetOp(s)
	want, errno := takenOp(s)
	if got != want || e != errno {
		t.Errorf("GetOp of %q is %v, %d; not %v, %d", s, got, e, want, errno)
	}
	if again, _ := intent.PutOp(got); e == api.OK && again != s {
		t.Errorf("PutOp of GetOp of %q is %q", s, again)
	}
}

func checkStateText(t *testing.T, s string) {
	t.Helper()
	got, e := intent.GetState(s)
	want, errno := takenState(s)
	if !same(got, want) || e != errno {
		t.Errorf("GetState of %q is %v, %d; not %v, %d", s, got, e, want, errno)
	}
	if again, _ := intent.PutState(got); e == api.OK && again != s {
		t.Errorf("PutState of GetState of %q is %q", s, again)
	}
}

// checkApply holds Apply against the chapter's words, and returns what it answers.
func checkApply(t *testing.T, s api.State, o api.Op) (api.State, api.Errno) {
	t.Helper()
	before := twin(s)
	got, e := intent.Apply(s, o)
	want, errno := apply(s, o)
	if !same(got, want) || e != errno {
		t.Errorf("Apply of %v on %v is %v, %d; not %v, %d", o, s, got, e, want, errno)
	}
	if !same(s, before) {
		t.Errorf("Apply of %v on %v left %v", o, before, s)
	}
	if e == api.OK && !intent.Right(got) {
		t.Errorf("Apply of %v on %v is %v, which is not valid", o, s, got)
	}
	return got, e
}

// refuses tells if Apply answers anything but this error.
func refuses(t *testing.T, s api.State, o api.Op, errno api.Errno) {
	t.Helper()
	if got, e := checkApply(t, s, o); e != errno || !same(got, api.State{}) {
		t.Errorf("Apply of %v on %v is %v, %d; not %d", o, s, got, e, errno)
	}
}

// I1, I2: the chapter's examples.
func TestTheExamples(t *testing.T) {
	s := stateOf(0, worksOf("a", "c"))
	if got, e := checkApply(t, s, submit(work("b", 1))); !same(got, stateOf(0, worksOf("a", "b", "c"))) || e != api.OK {
		t.Error("Apply of b:", got, e)
	}
	refuses(t, s, scale("d", 1), 122)
	refuses(t, s, submit(work("a", 1)), 121)
	if got, e := intent.PutOp(named(6, "n")); got != "\x0c\x02n" || e != api.OK {
		t.Errorf("PutOp of OpCordon of n: %q %d", got, e)
	}
	if got, e := intent.GetOp("\x0c\x02n"); got != named(6, "n") || e != api.OK {
		t.Error("GetOp of OpCordon of n:", got, e)
	}
	if api.OpSubmit != 1 || api.OpScale != 2 || api.OpDelete != 3 || api.OpAddNode != 4 || api.OpRemoveNode != 5 || api.OpCordon != 6 || api.OpUncordon != 7 || api.OpEpoch != 8 {
		t.Error("the Kinds have other numbers")
	}
}

// someNumbers are those from low to high, or some of them, and some beyond.
func someNumbers(low, high int) []int {
	all := []int{low - 1, high + 1, high + 100, -high - 5, low + 1<<32, low + 1<<8, low - 1<<32, math.MinInt, math.MaxInt}
	for x := low; x <= high && x < low+20; x++ {
		all = append(all, x)
	}
	return append(all, high-1, high)
}

// someNames are names, and texts that are nearly some.
func someNames() []string {
	return []string{"a", "z", "0", "9", "web1", "abcdefghijkl", "000000000000",
		"", "A", "Z", "a b", "a-b", "a=", "!a", "a,b", "abcdefghijklm", "é", "a\x00", "\x00", "`", "{", "/", ":", " a", strings.Repeat("a", 300)}
}

// someSelectors and someLabels are some, the longest ones too, and texts that are none.
func someSelectors() []string {
	most := "abcdefghijkl!=abcdefghijkl"
	return []string{"", "gpu", "!gpu,a,b=c,d!=e", "b,a", "a,a", strings.Join([]string{most, most, most, most}, ","), strings.Join([]string{most, most, most, most, "a"}, ","),
		",", "a,", "A", "!", "a=", "a==b", "a,b,c,d,e", "abcdefghijklm", " "}
}

func someLabels() []string {
	return []string{"", "gpu=x", "a=b,c=d,e=f,g=h", "abcdefghijkl=abcdefghijkl", "aaaaaaaaaaaa=abcdefghijkl,baaaaaaaaaaa=abcdefghijkl,caaaaaaaaaaa=abcdefghijkl,daaaaaaaaaaa=abcdefghijkl",
		"x", ",", "a=b,", "zone=a,disk=ssd", "a=b,a=c", "a=b,c=d,e=f,g=h,i=j", "!a", "a!=b", "A=b"}
}

// parts are the texts and the numbers that something may be made of.
type parts[T any] struct {
	texts  func(*T) *string
	number func(*T) *int
	some   []string
	low    int
	high   int
}

// variants are copies of a thing with one part changed.
func (p parts[T]) variants(of T) []T {
	var all []T
	if p.texts != nil {
		for _, s := range p.some {
			x := of
			*p.texts(&x) = s
			all = append(all, x)
		}
		return all
	}
	for _, n := range someNumbers(p.low, p.high) {
		x := of
		*p.number(&x) = n
		all = append(all, x)
	}
	return all
}

// someWorks and someNodes are valid ones and others, with each part from its least to its greatest and beyond.
func someWorks(id string) []api.Work {
	var all []api.Work
	for _, part := range []parts[api.Work]{
		{texts: func(w *api.Work) *string { return &w.ID }, some: someNames()},
		{texts: func(w *api.Work) *string { return &w.Selector }, some: someSelectors()},
		{number: func(w *api.Work) *int { return &w.Want }, low: 0, high: 16},
		{number: func(w *api.Work) *int { return &w.Prio }, low: 0, high: 9},
		{number: func(w *api.Work) *int { return &w.PerNode }, low: 1, high: 16},
		{number: func(w *api.Work) *int { return &w.PerCell }, low: 1, high: 16},
	} {
		all = append(all, part.variants(workAs(id, 4, "gpu,!b"))...)
	}
	return all
}

func someNodes(id string) []api.Node {
	var all []api.Node
	for _, part := range []parts[api.Node]{
		{texts: func(n *api.Node) *string { return &n.ID }, some: someNames()},
		{texts: func(n *api.Node) *string { return &n.Labels }, some: someLabels()},
		{number: func(n *api.Node) *int { return &n.Cell }, low: 0, high: 2},
		{number: func(n *api.Node) *int { return &n.Slots }, low: 0, high: 4},
	} {
		for _, n := range part.variants(node(id, false)) {
			other := n
			other.Cordoned = true
			all = append(all, n, other)
		}
	}
	return all
}

// someStates are valid ones and others.
func someStates() []api.State {
	var all []api.State
	for _, n := range someNumbers(0, lastEpoch) {
		all = append(all, stateOf(n, nil), stateOf(n, worksOf("a"), node("n", true)))
	}
	for _, w := range someWorks("b") {
		all = append(all, stateOf(3, []api.Work{w}), stateOf(3, []api.Work{work("a", 1), w}, node("n", false)), stateOf(3, []api.Work{w, work("zz", 1)}))
	}
	for _, n := range someNodes("b") {
		all = append(all, stateOf(3, nil, n), stateOf(3, worksOf("a"), node("a", true), n), stateOf(3, nil, n, node("zz", true)))
	}
	orders := [][]string{{"a", "b"}, {"b", "a"}, {"a", "a"}, {"a", "a0"}, {"aa", "a"}, {"9", "a"}, {"a", "9"}, {"a", "b", "c"}, {"a", "c", "b"}, {"b", "a", "c"}, {"a", "b", "b"}, {"c", "d", "a"}, {"10", "9"}, {"9", "10"}}
	for _, ids := range orders {
		all = append(all, stateOf(1, worksOf(ids...)), stateOf(1, nil, nodesOf(ids...)...), stateOf(1, worksOf(ids...), nodesOf(ids...)...))
	}
	return append(all, longStates()...)
}

// longStates have 0 to 20 workloads or nodes, or as many of both.
func longStates() []api.State {
	all := []api.State{{}}
	var ids []string
	for i := range 20 {
		ids = append(ids, string(rune('a'+i)))
		all = append(all, stateOf(2, worksOf(ids...)), stateOf(2, nil, nodesOf(ids...)...), stateOf(2, worksOf(ids...), nodesOf(ids...)...))
	}
	return all
}

// I1, I3: which states are valid, and what becomes of the others.
func TestWhatIsAState(t *testing.T) {
	valid := 0
	for _, s := range someStates() {
		checkState(t, s)
		checkApply(t, s, named(3, "a"))
		if intent.Right(s) {
			valid++
			continue
		}
		for _, o := range smallOps() {
			refuses(t, s, o, 120)
		}
	}
	if valid < 100 {
		t.Error("only", valid, "states are valid")
	}
	for n, right := range map[int]bool{-1: false, 0: true, 1: true, 1 << 40: true, 1<<40 + 1: false, math.MinInt: false, math.MaxInt: false} {
		if intent.Right(api.State{Epoch: n}) != right {
			t.Errorf("Right with Epoch %d", n)
		}
	}
	if !intent.Right(stateOf(0, worksOf("a", "b", "c", "d", "e", "f", "g", "h"), nodesOf("a", "b", "c", "d", "e", "f", "g", "h")...)) {
		t.Error("Right of 8 and 8")
	}
}

// someOps are valid operations and others.
func someOps() []api.Op {
	var all []api.Op
	for _, w := range someWorks("b") {
		all = append(all, submit(w))
	}
	for _, n := range someNodes("b") {
		all = append(all, add(n))
	}
	for _, n := range someNumbers(0, 16) {
		all = append(all, scale("b", n))
	}
	for _, id := range someNames() {
		for kind := range 12 {
			all = append(all, named(kind, id))
		}
	}
	kinds := append(someNumbers(1, 8), 0, 9, 10, 1<<8+1, 1<<32+8, 1<<16+3)
	for _, kind := range kinds {
		all = append(all, api.Op{Kind: kind}, named(kind, "b"), stuffed(kind))
	}
	return all
}

// stuffed is an operation with all fields.
func stuffed(kind int) api.Op {
	return api.Op{Kind: kind, Work: workAs("b", 7, "gpu"), Node: api.Node{ID: "b", Cell: 2, Slots: 4, Labels: "a=b", Cordoned: true}, ID: "b", Want: 5}
}

// I1, I2: which operations are valid, and what becomes of the others.
func TestWhatIsAnOperation(t *testing.T) {
	valid := 0
	states := []api.State{{}, stateOf(5, worksOf("a", "b", "d"), nodesOf("b", "c")...), stateOf(lastEpoch, nil)}
	for _, o := range someOps() {
		checkOp(t, o)
		if isOp(o) {
			valid++
		}
		for _, s := range states {
			if _, e := checkApply(t, s, o); !isOp(o) && e != 120 {
				t.Errorf("Apply of %v: %d", o, e)
			}
		}
	}
	if valid < 100 {
		t.Error("only", valid, "operations are valid")
	}
	for kind := -3; kind < 15; kind++ {
		_, e := intent.PutOp(stuffed(kind))
		if (e == api.OK) != (kind >= 1 && kind <= 8) {
			t.Errorf("PutOp of Kind %d: %d", kind, e)
		}
	}
}

// I1, I2: fields that a Kind does not use do not matter, whatever is in them.
func TestOtherFieldsDoNotMatter(t *testing.T) {
	junk := api.Op{Work: api.Work{ID: "N O", Want: -1, Selector: ",,"}, Node: api.Node{ID: "a", Cell: 7, Labels: "?"}, ID: "not a name", Want: 99}
	s := stateOf(4, worksOf("a", "b"), nodesOf("a", "b")...)
	for _, o := range smallOps() {
		full := junk
		full.Kind = o.Kind
		switch o.Kind {
		case 1:
			full.Work = o.Work
		case 2:
			full.ID, full.Want = o.ID, o.Want
		case 4:
			full.Node = o.Node
		case 3, 5, 6, 7:
			full.ID = o.ID
		}
		checkOp(t, full)
		got, e := checkApply(t, s, full)
		if want, errno := intent.Apply(s, o); !same(got, want) || e != errno || e == 120 {
			t.Errorf("Apply of %v: %v, %d; without the other fields %v, %d", full, got, e, want, errno)
		}
		laid, _ := intent.PutOp(full)
		if want, _ := intent.PutOp(o); laid != want || laid == "" {
			t.Errorf("PutOp of %v: %q; without the other fields %q", full, laid, want)
		}
		if back, _ := intent.GetOp(laid); back != o {
			t.Errorf("GetOp of PutOp of %v: %v", full, back)
		}
	}
}

// smallOps are operations on few workloads and nodes.
func smallOps() []api.Op {
	all := []api.Op{epoch()}
	for _, id := range []string{"a", "b", "c", "d", "e"} {
		all = append(all, submit(work(id, 1)), scale(id, 0), scale(id, 1), add(node(id, false)), add(node(id, true)))
		for _, kind := range []int{3, 5, 6, 7} {
			all = append(all, named(kind, id))
		}
	}
	return all
}

// smallStates are all with these workloads, each as it is or with another Want, and these nodes, each cordoned or not, and without any of them.
func smallStates(epoch int) []api.State {
	var workLists [][]api.Work
	var nodeLists [][]api.Node
	for choice := range 9 {
		var works []api.Work
		var nodes []api.Node
		for i, id := range []string{"b", "d"} {
			if how := choice / (1 + 2*i) % 3; how > 0 {
				works, nodes = append(works, work(id, how-1)), append(nodes, node(id, how == 2))
			}
		}
		workLists, nodeLists = append(workLists, works), append(nodeLists, nodes)
	}
	var all []api.State
	for _, works := range workLists {
		for _, nodes := range nodeLists {
			all = append(all, stateOf(epoch, works, nodes...))
		}
	}
	return all
}

// I1: all small operations on all small states.
func TestApplyToSmallStates(t *testing.T) {
	for _, epoch := range []int{0, 1, lastEpoch - 1, lastEpoch} {
		for _, s := range smallStates(epoch) {
			for _, o := range smallOps() {
				checkApply(t, s, o)
			}
		}
	}
}

// I1: a workload or a node comes between those with lesser and greater IDs, in bytewise order, wherever that is.
func TestTheOrderOfIDs(t *testing.T) {
	ids := []string{"0", "00", "09", "1", "10", "9", "9z", "a", "a0", "aa", "ab", "b", "zz"}
	for i := range ids {
		others := slices.Delete(slices.Clone(ids), i, i+1)
		for first := range others {
			for last := first; last <= min(len(others), first+7); last++ {
				list := others[first:last]
				merged := append(slices.Clone(list), ids[i])
				slices.Sort(merged)
				s := stateOf(0, worksOf(list...), nodesOf(list...)...)
				if got, e := checkApply(t, s, submit(work(ids[i], 1))); e != api.OK || !slices.Equal(got.Works, worksOf(merged...)) || !slices.Equal(got.Nodes, s.Nodes) {
					t.Errorf("%q into %q: %v %d", ids[i], list, got, e)
				}
				if got, e := checkApply(t, s, add(node(ids[i], false))); e != api.OK || !slices.Equal(got.Nodes, nodesOf(merged...)) || !slices.Equal(got.Works, s.Works) {
					t.Errorf("%q into %q: %v %d", ids[i], list, got, e)
				}
			}
		}
	}
}

// full has 8 workloads and 8 nodes.
func full() api.State {
	ids := []string{"b", "d", "f", "h", "j", "l", "n", "p"}
	return stateOf(9, worksOf(ids...), nodesOf(ids...)...)
}

// I1: there are at most 8 workloads and 8 nodes, which don't count for each other, and each of them may be changed and go.
func TestFull(t *testing.T) {
	s := full()
	for b := byte('a'); b <= 'r'; b++ {
		id, there := string(b), b%2 == 0 && b <= 'p'
		inserted, found := api.Errno(123), api.Errno(122)
		if there {
			inserted, found = 121, api.OK
		}
		for _, o := range []api.Op{submit(work(id, 1)), add(node(id, true))} {
			if _, e := checkApply(t, s, o); e != inserted {
				t.Errorf("Apply of %v: %d, not %d", o, e, inserted)
			}
		}
		for _, o := range []api.Op{scale(id, 2), named(3, id), named(5, id), named(6, id), named(7, id)} {
			if _, e := checkApply(t, s, o); e != found {
				t.Errorf("Apply of %v: %d, not %d", o, e, found)
			}
		}
		works, nodes := stateOf(0, s.Works), stateOf(0, nil, s.Nodes...)
		if _, e := checkApply(t, works, add(node(id, true))); e != api.OK {
			t.Errorf("no node %s beside 8 workloads: %d", id, e)
		}
		if _, e := checkApply(t, nodes, submit(work(id, 1))); e != api.OK {
			t.Errorf("no workload %s beside 8 nodes: %d", id, e)
		}
	}
	s.Works, s.Nodes = s.Works[1:], s.Nodes[:7]
	for _, o := range []api.Op{submit(work("a", 1)), submit(work("z", 1)), submit(work("i", 1)), add(node("a", true)), add(node("z", true)), add(node("i", true))} {
		if got, e := checkApply(t, s, o); e != api.OK || len(got.Works)+len(got.Nodes) != 15 {
			t.Errorf("Apply of %v: %d", o, e)
		}
	}
}

// I1: of several errors, the one that is checked first.
func TestTheOrderOfErrors(t *testing.T) {
	wrong, crowded := full(), full()
	wrong.Epoch = -1
	crowded.Works = append(crowded.Works, work("r", 1))
	for _, o := range []api.Op{submit(work("b", 1)), submit(work("a", 1)), add(node("b", true)), add(node("a", true)), scale("a", 1), named(3, "a"), named(5, "a"), named(6, "a"), named(7, "a"), epoch()} {
		refuses(t, wrong, o, 120)
		refuses(t, crowded, o, 120)
	}
	badWork, badNode := work("b", 17), node("b", true)
	badNode.Slots = 5
	refuses(t, full(), submit(badWork), 120)
	refuses(t, full(), add(badNode), 120)
	badWork.ID, badNode.ID = "a", "a"
	refuses(t, full(), submit(badWork), 120)
	refuses(t, full(), add(badNode), 120)
	refuses(t, full(), scale("a", 17), 120)
	refuses(t, full(), scale("a", -1), 120)
	refuses(t, full(), scale("A", 1), 120)
	refuses(t, full(), named(9, "b"), 120)
	for _, kind := range []int{3, 5, 6, 7} {
		refuses(t, full(), named(kind, ""), 120)
		refuses(t, full(), named(kind, "a,b"), 120)
	}
	refuses(t, full(), submit(work("b", 1)), 121)
	refuses(t, full(), submit(work("p", 9)), 121)
	refuses(t, full(), add(node("b", true)), 121)
	refuses(t, full(), scale("a", 16), 122)
	refuses(t, full(), submit(work("a", 16)), 123)
	refuses(t, full(), add(node("a", true)), 123)
	refuses(t, stateOf(lastEpoch, nil), epoch(), 120)
	refuses(t, stateOf(lastEpoch, nil), named(3, "a"), 122)
}

// I1: OpEpoch counts up to its limit, and nothing else does.
func TestEpoch(t *testing.T) {
	for _, n := range []int{0, 1, 127, 1 << 31, 1<<32 - 1, lastEpoch - 2, lastEpoch - 1} {
		s := full()
		s.Epoch = n
		got, e := checkApply(t, s, epoch())
		s.Epoch = n + 1
		if e != api.OK || !same(got, s) {
			t.Errorf("behind %d: %v, %d", n, got, e)
		}
	}
	s := stateOf(lastEpoch, worksOf("a"), node("a", false))
	for _, o := range []api.Op{submit(work("b", 1)), scale("a", 1), named(3, "a"), add(node("b", true)), named(5, "a"), named(6, "a"), named(7, "a")} {
		if got, e := checkApply(t, s, o); e != api.OK || got.Epoch != lastEpoch {
			t.Errorf("Apply of %v: %v, %d", o, got, e)
		}
	}
}

// I1: an operation on one workload or node leaves the others, and all other fields, as they are.
func TestOnlyOneIsChanged(t *testing.T) {
	s := stateOf(6, []api.Work{workAs("a", 1, "gpu"), workAs("b", 2, "!gpu"), workAs("c", 16, "")}, node("a", true), node("b", false), node("c", true))
	expect := func(o api.Op, change func(*api.State)) {
		t.Helper()
		want := twin(s)
		change(&want)
		if got, e := checkApply(t, s, o); e != api.OK || !same(got, want) {
			t.Errorf("Apply of %v: %v, %d", o, got, e)
		}
	}
	for i, id := range []string{"a", "b", "c"} {
		for n := range 17 {
			expect(scale(id, n), func(s *api.State) { s.Works[i].Want = n })
		}
		expect(named(3, id), func(s *api.State) { s.Works = slices.Delete(s.Works, i, i+1) })
		expect(named(5, id), func(s *api.State) { s.Nodes = slices.Delete(s.Nodes, i, i+1) })
		expect(named(6, id), func(s *api.State) { s.Nodes[i].Cordoned = true })
		expect(named(7, id), func(s *api.State) { s.Nodes[i].Cordoned = false })
	}
	expect(epoch(), func(s *api.State) { s.Epoch = 7 })
	for _, o := range []api.Op{scale("d", 1), named(3, "d"), named(5, "d"), named(6, "d"), named(7, "d")} {
		refuses(t, s, o, 122)
	}
	onlyWork, onlyNode := stateOf(0, worksOf("a")), stateOf(0, nil, node("a", false))
	for _, kind := range []int{5, 6, 7} {
		refuses(t, onlyWork, named(kind, "a"), 122)
	}
	refuses(t, onlyNode, named(3, "a"), 122)
	refuses(t, onlyNode, scale("a", 1), 122)
}

// pick is one of a list.
func pick[T any](random *rand.Rand, list ...T) T {
	return list[random.Intn(len(list))]
}

// randomOp is a valid operation mostly, on few IDs.
func randomOp(random *rand.Rand) api.Op {
	id := pick(random, "a", "a0", "aa", "b", "b9", "c", "0", "1", "10", "9", "x", "y", "z", "zz", "abcdefghijkl")
	w := api.Work{ID: id, Want: random.Intn(17), Prio: random.Intn(10), PerNode: 1 + random.Intn(16), PerCell: 1 + random.Intn(16), Selector: pick(random, "", "gpu", "!gpu,zone=a", "a!=b")}
	n := api.Node{ID: id, Cell: random.Intn(3), Slots: random.Intn(5), Labels: pick(random, "", "gpu=x", "gpu=x,zone=a"), Cordoned: random.Intn(2) == 0}
	kind := pick(random, 1, 1, 1, 4, 4, 4, 2, 3, 5, 6, 7, 8)
	if random.Intn(30) == 0 {
		kind, w.Want, n.Slots = random.Intn(10), 17, 5
	}
	return api.Op{Kind: kind, Work: w, Node: n, ID: id, Want: w.Want}
}

// I1, I2, I3: long random sequences of operations, held against plain maps.
func TestRandomSequences(t *testing.T) {
	random := rand.New(rand.NewSource(1))
	count := map[api.Errno]int{}
	for range 100 {
		s := api.State{}
		for range 200 {
			o := randomOp(random)
			next, e := checkApply(t, s, o)
			count[e]++
			if e == api.OK {
				s = next
			}
			checkOp(t, o)
			checkState(t, s)
		}
	}
	for _, e := range []api.Errno{0, 120, 121, 122, 123} {
		if count[e] < 100 {
			t.Errorf("only %d times %d", count[e], e)
		}
	}
}

// I2: encodings of operations, byte by byte.
func TestPutOp(t *testing.T) {
	for _, c := range []struct {
		o api.Op
		s string
	}{
		{submit(api.Work{ID: "ab", Want: 3, Prio: 2, PerNode: 1, PerCell: 16, Selector: "zone=a"}), "\x02\x04ab\x06\x04\x02\x20\x0czone=a"},
		{submit(api.Work{ID: "a", Want: 16, Prio: 9, PerNode: 15, PerCell: 14}), "\x02\x02a\x20\x12\x1e\x1c\x00"},
		{scale("a", 5), "\x04\x02a\x0a"},
		{scale("a0", 0), "\x04\x04a0\x00"},
		{named(3, "a"), "\x06\x02a"},
		{add(api.Node{ID: "n", Cell: 2, Slots: 4, Cordoned: true}), "\x08\x02n\x04\x08\x00\x02"},
		{add(api.Node{ID: "n", Cell: 1, Slots: 3, Labels: "k=v"}), "\x08\x02n\x02\x06\x06k=v\x00"},
		{named(5, "n"), "\x0a\x02n"},
		{named(6, "n"), "\x0c\x02n"},
		{named(7, "abcdefghijkl"), "\x0e\x18abcdefghijkl"},
		{epoch(), "\x10"},
	} {
		if got, e := intent.PutOp(c.o); got != c.s || e != api.OK {
			t.Errorf("PutOp of %v: %q, %d", c.o, got, e)
		}
		if got, e := intent.GetOp(c.s); got != c.o || e != api.OK {
			t.Errorf("GetOp of %q: %v, %d", c.s, got, e)
		}
		checkOp(t, c.o)
	}
}

// I3: encodings of states, byte by byte.
func TestPutState(t *testing.T) {
	w := api.Work{ID: "ab", Want: 3, Prio: 2, PerNode: 1, PerCell: 16, Selector: "zone=a"}
	n := api.Node{ID: "n", Cell: 2, Slots: 4, Cordoned: true}
	for _, c := range []struct {
		s    api.State
		text string
	}{
		{api.State{}, "\x00\x00\x00"},
		{stateOf(7, []api.Work{w}, n), "\x0e\x02\x04ab\x06\x04\x02\x20\x0czone=a\x02\x02n\x04\x08\x00\x02"},
		{stateOf(64, nil, node("m", false), n), "\x80\x01\x00\x04\x02m\x02\x04\x00\x00\x02n\x04\x08\x00\x02"},
		{stateOf(lastEpoch, []api.Work{work("a", 0), w}), "\x80\x80\x80\x80\x80\x40\x04\x02a\x00\x06\x04\x0a\x00\x04ab\x06\x04\x02\x20\x0czone=a\x00"},
	} {
		if got, e := intent.PutState(c.s); got != c.text || e != api.OK {
			t.Errorf("PutState of %v: %q, %d", c.s, got, e)
		}
		if got, e := intent.GetState(c.text); !same(got, c.s) || e != api.OK {
			t.Errorf("GetState of %q: %v, %d", c.text, got, e)
		}
		checkState(t, c.s)
	}
}

// largest is a state whose encoding is as long as can be.
func largest() api.State {
	s := api.State{Epoch: lastEpoch}
	most := "abcdefghijkl!=abcdefghijkl"
	selector := strings.Join([]string{most, most, most, most}, ",")
	for i := range 8 {
		id := string(rune('a'+i)) + "zzzzzzzzzzz"
		s.Works = append(s.Works, api.Work{ID: id, Want: 16, Prio: 9, PerNode: 16, PerCell: 16, Selector: selector})
		s.Nodes = append(s.Nodes, api.Node{ID: id, Cell: 2, Slots: 4, Labels: someLabels()[4], Cordoned: true})
	}
	return s
}

// I2, I3: the greatest operations and the greatest state.
func TestTheLargest(t *testing.T) {
	s := largest()
	if !intent.Right(s) {
		t.Fatal("the largest state is not valid")
	}
	checkState(t, s)
	for i := range s.Works {
		checkOp(t, submit(s.Works[i]))
		checkOp(t, add(s.Nodes[i]))
		refuses(t, s, submit(s.Works[i]), 121)
		refuses(t, s, add(s.Nodes[i]), 121)
	}
	laid, _ := intent.PutState(s)
	for i := range laid {
		if got, e := intent.GetState(laid[:i]); e != 120 || !same(got, api.State{}) {
			t.Errorf("GetState of the first %d bytes: %d", i, e)
		}
	}
}

// someEncodings are those of operations and of states.
func someEncodings() []string {
	all := []string{laidState(stateOf(7, []api.Work{workAs("a", 3, "!b"), work("b", 4)}, node("m", true), api.Node{ID: "n", Labels: "a=b"})), laidState(api.State{}), laidState(stateOf(lastEpoch, nil, node("n", false)))}
	for kind := 1; kind <= 8; kind++ {
		all = append(all, laidOp(stuffed(kind)))
	}
	return all
}

// checkText holds both Get functions of a text against the chapter's words.
func checkText(t *testing.T, s string) {
	t.Helper()
	checkOpText(t, s)
	checkStateText(t, s)
}

// I2, I3: bytes that are missing, too much, changed or doubled, and numbers with superfluous digits.
func TestSpoiledEncodings(t *testing.T) {
	for _, s := range someEncodings() {
		checkText(t, s)
		for i := range s {
			checkText(t, s[:i])
			checkText(t, s[i:])
			checkText(t, s[:i]+s[i+1:])
			checkText(t, s[:i]+string([]byte{s[i] | 128, 0})+s[i+1:])
			checkText(t, s[:i]+string([]byte{s[i] | 128, 128, 0})+s[i+1:])
			for b := range 256 {
				other := string([]byte{byte(b)})
				checkText(t, s[:i]+other+s[i+1:])
				checkText(t, s[:i]+other+s[i:])
			}
		}
		for b := range 256 {
			behind := s + string([]byte{byte(b)})
			if _, e := intent.GetOp(behind); e != 120 {
				t.Errorf("GetOp of %q: %d", behind, e)
			}
			if _, e := intent.GetState(behind); e != 120 {
				t.Errorf("GetState of %q: %d", behind, e)
			}
		}
		checkText(t, s+s)
	}
}

// I2, I3: all short texts, and random ones of the bytes that encodings consist of.
func TestAnyText(t *testing.T) {
	checkText(t, "")
	for a := range 256 {
		checkText(t, string([]byte{byte(a)}))
		for b := range 256 {
			checkText(t, string([]byte{byte(a), byte(b)}))
			for _, c := range []byte{0, 1, 2, 'a', 'A', 128, 255} {
				checkText(t, string([]byte{byte(a), byte(b), c}))
			}
		}
	}
	random := rand.New(rand.NewSource(2))
	for range 100000 {
		s := make([]byte, random.Intn(20))
		for i := range s {
			s[i] = pick[byte](random, 0, 0, 1, 2, 2, 2, 4, 6, 8, 10, 16, 32, 'a', 'b', 'a', 128)
		}
		checkText(t, string(s))
	}
}

// I2, I3: encodings made up of parts that could be, which are valid by chance.
func TestPartsOfEncodings(t *testing.T) {
	random := rand.New(rand.NewSource(3))
	valid := 0
	for range 100000 {
		s := num(random.Intn(9))
		for range random.Intn(4) {
			o := randomOp(random)
			s += pick(random, laidWork(o.Work), laidNode(o.Node), text(o.ID), num(random.Intn(3)), num(-1), laidOp(o), "")
		}
		s += pick(random, "", "", num(0))
		checkText(t, s)
		if _, e := intent.GetState(s); e == api.OK {
			valid++
		}
	}
	if valid < 1000 {
		t.Error("only", valid, "are states")
	}
}

// I3: numbers of workloads and nodes that are negative, too great, or not those of what follows.
func TestWrongNumbersOfElements(t *testing.T) {
	numbers := []int{-1, -2, -9, 0, 1, 2, 3, 7, 8, 9, 10, 100, 1 << 31, 1 << 40, math.MaxInt, math.MinInt}
	for _, s := range longStates() {
		works, nodes := "", ""
		for _, w := range s.Works {
			works += laidWork(w)
		}
		for _, n := range s.Nodes {
			nodes += laidNode(n)
		}
		for _, first := range numbers {
			checkStateText(t, num(2)+num(first)+works+num(len(s.Nodes))+nodes)
			checkStateText(t, num(2)+num(len(s.Works))+works+num(first)+nodes)
			checkStateText(t, num(2)+num(first)+num(first))
		}
	}
}

// idOf is the ID of the workload or the node that an operation is about.
func idOf(o api.Op) string {
	switch o.Kind {
	case 1:
		return o.Work.ID
	case 4:
		return o.Node.ID
	}
	return o.ID
}

// must is Apply where it has no error.
func must(t *testing.T, s api.State, o api.Op) api.State {
	t.Helper()
	next, e := intent.Apply(s, o)
	if e != api.OK {
		t.Fatalf("Apply of %v on %v: %d", o, s, e)
	}
	return next
}

// I4: what is submitted and deleted, added and removed, or cordoned and uncordoned is as before.
func TestThereAndBack(t *testing.T) {
	random := rand.New(rand.NewSource(4))
	done := [9]int{}
	for range 20000 {
		s := randomState(random)
		o := randomOp(random)
		back := map[int]api.Op{1: named(3, o.Work.ID), 4: named(5, o.Node.ID), 6: named(7, o.ID)}[o.Kind]
		there, e := intent.Apply(s, o)
		isCordoned := slices.ContainsFunc(s.Nodes, func(n api.Node) bool { return n.ID == o.ID && n.Cordoned })
		if back.Kind == 0 || e != api.OK || o.Kind == 6 && isCordoned {
			continue
		}
		done[o.Kind]++
		if got := must(t, there, back); !same(got, s) || same(there, s) {
			t.Errorf("%v and %v on %v: %v, then %v", o, back, s, there, got)
		}
	}
	if done[1] < 100 || done[4] < 100 || done[6] < 100 {
		t.Error("too few:", done)
	}
}

// randomState is a valid one.
func randomState(random *rand.Rand) api.State {
	s := api.State{Epoch: random.Intn(3)}
	for range random.Intn(20) {
		if next, e := intent.Apply(s, randomOp(random)); e == api.OK {
			s = next
		}
	}
	return s
}

// I4: two operations on different IDs may be applied in either order.
func TestEitherOrder(t *testing.T) {
	ops := smallOps()
	pairs := 0
	for _, s := range append(smallStates(0), full(), stateOf(0, full().Works[:7], full().Nodes[:7]...)) {
		states, errnos := make([]api.State, len(ops)), make([]api.Errno, len(ops))
		for i, o := range ops {
			states[i], errnos[i] = intent.Apply(s, o)
		}
		for i, first := range ops {
			for j, second := range ops[:i] {
				if errnos[i] != api.OK || errnos[j] != api.OK || idOf(first) == idOf(second) {
					continue
				}
				one, e1 := intent.Apply(states[i], second)
				other, e2 := intent.Apply(states[j], first)
				if e1 != api.OK || e2 != api.OK {
					continue
				}
				pairs++
				if !same(one, other) {
					t.Errorf("%v and %v on %v: %v, or %v", first, second, s, one, other)
				}
			}
		}
	}
	if pairs < 10000 {
		t.Error("only", pairs, "pairs")
	}
}

// I4: different states have different encodings, and so have different operations.
func TestDifferentEncodings(t *testing.T) {
	seen := map[string]api.State{}
	for _, epoch := range []int{0, 1, 64, lastEpoch} {
		for _, s := range append(smallStates(epoch), someStates()...) {
			laid, e := intent.PutState(s)
			if e != api.OK {
				continue
			}
			if other, there := seen[laid]; there && !same(other, s) {
				t.Errorf("%v and %v are both %q", other, s, laid)
			}
			seen[laid] = s
		}
	}
	ops := map[string]api.Op{}
	for _, o := range append(someOps(), smallOps()...) {
		laid, e := intent.PutOp(o)
		if e != api.OK {
			continue
		}
		if other, there := ops[laid]; there && other != bare(o) {
			t.Errorf("%v and %v are both %q", other, o, laid)
		}
		ops[laid] = bare(o)
	}
	if len(seen) < 400 || len(ops) < 100 {
		t.Error("too few:", len(seen), len(ops))
	}
}

// R1: lists and texts of any length, which nobody could have written.
func TestHugeInputs(t *testing.T) {
	long := strings.Repeat("a", 1<<22)
	works, nodes := make([]api.Work, 1<<18), make([]api.Node, 1<<18)
	for i := range works {
		works[i], nodes[i] = work("a", 1), node("a", false)
	}
	lists := []api.State{stateOf(0, works), stateOf(0, nil, nodes...), stateOf(0, worksOf(long)), stateOf(0, nil, nodesOf(long)...)}
	for _, s := range append(lists, stateOf(0, []api.Work{workAs("a", 1, long)}), stateOf(0, nil, api.Node{ID: "a", Labels: long})) {
		put, e := intent.PutState(s)
		if put != "" || e != 120 || intent.Right(s) {
			t.Error("a huge state:", e)
		}
		if _, e := intent.Apply(s, epoch()); e != 120 {
			t.Error("a huge state, changed:", e)
		}
	}
	texts := []string{long, num(6) + text(long), num(1) + laidWork(work(long, 1)), num(0) + num(1) + laidWork(workAs("a", 1, long)) + num(0)}
	texts = append(texts, num(0)+num(1<<18)+strings.Repeat(laidWork(work("a", 1)), 1<<18)+num(0))
	for _, part := range []string{"\x00", "\x02", "\x80", "\xff"} {
		texts = append(texts, strings.Repeat(part, 1<<22))
	}
	for _, s := range texts {
		if o, e := intent.GetOp(s); o != (api.Op{}) || e != 120 {
			t.Errorf("GetOp of %q..: %d", s[:9], e)
		}
		if got, e := intent.GetState(s); !same(got, api.State{}) || e != 120 {
			t.Errorf("GetState of %q..: %d", s[:9], e)
		}
	}
	for _, o := range []api.Op{named(3, long), scale(long, 1), submit(work(long, 1)), submit(workAs("a", 1, long)), add(node(long, true)), add(api.Node{ID: "a", Labels: long})} {
		_, e := intent.Apply(api.State{}, o)
		if put, e2 := intent.PutOp(o); put != "" || e != 120 || e2 != 120 {
			t.Error("a huge operation:", e, e2)
		}
	}
}

// roomy is a copy with memory behind its length.
func roomy[T any](list []T, behind T) []T {
	long := append(slices.Clone(list), behind, behind)
	return long[:len(list)]
}

// spacious is a state with memory behind its lists; nobody else has it.
func spacious() api.State {
	s := stateOf(3, []api.Work{workAs("b", 2, "!gpu"), workAs("d", 3, "zone=a"), work("f", 1)}, api.Node{ID: "b", Slots: 3, Labels: "gpu=x"}, node("d", true), node("f", false))
	s.Works, s.Nodes = roomy(s.Works, work("y", 9)), roomy(s.Nodes, node("z", true))
	return s
}

// whole is a state with the memory behind its lists.
func whole(s api.State) api.State {
	s.Works, s.Nodes = s.Works[:cap(s.Works)], s.Nodes[:cap(s.Nodes)]
	return s
}

// overwrite changes all that a state has, and what is behind its lists, which it extends too.
func overwrite(s api.State) {
	all := whole(s)
	for i := range all.Works {
		all.Works[i] = work("k", 0)
	}
	for i := range all.Nodes {
		all.Nodes[i] = node("k", true)
	}
	_, _ = append(s.Works, work("k", 2)), append(s.Nodes, node("k", false))
}

// R3: arguments stay as they are, also behind their length, and what was answered does, whatever becomes of them.
func TestArgumentsAreLeftAlone(t *testing.T) {
	for _, o := range append(smallOps(), submit(work("g", 17)), api.Op{Kind: 9}) {
		s := spacious()
		got, e := intent.Apply(s, o)
		intent.Right(s)
		laid, _ := intent.PutState(s)
		if !same(whole(s), whole(spacious())) {
			t.Errorf("Apply of %v changed its argument: %v", o, whole(s))
		}
		overwrite(s)
		if want, errno := apply(spacious(), o); !same(got, want) || e != errno || laid != laidState(spacious()) {
			t.Errorf("Apply of %v changed with its argument: %v, %d", o, got, e)
		}
	}
}

// R3, R4: answers may be changed and extended without a change of another one, or of a later one.
func TestAnswersAreNewMemory(t *testing.T) {
	laid := laidState(spacious())
	for _, o := range smallOps() {
		s := spacious()
		want, errno := apply(s, o)
		first, _ := intent.Apply(s, o)
		second, _ := intent.Apply(s, o)
		overwrite(first)
		third, e := intent.Apply(s, o)
		if !same(second, want) || !same(third, want) || e != errno || !same(whole(s), whole(spacious())) {
			t.Errorf("answers of Apply of %v share memory: %v, %v", o, second, third)
		}
	}
	first, _ := intent.GetState(laid)
	second, _ := intent.GetState(laid)
	overwrite(first)
	if third, _ := intent.GetState(laid); !same(second, spacious()) || !same(third, spacious()) {
		t.Error("answers of GetState share memory:", second, third)
	}
}

// lies reports whether got lies in the memory of s.
func lies(got, s string) bool {
	start, at := uintptr(unsafe.Pointer(unsafe.StringData(s))), uintptr(unsafe.Pointer(unsafe.StringData(got)))
	return got != "" && start <= at && at < start+uintptr(len(s))
}

// textsOf are the texts of a state.
func textsOf(s api.State) []string {
	var all []string
	for _, w := range s.Works {
		all = append(all, w.ID, w.Selector)
	}
	for _, n := range s.Nodes {
		all = append(all, n.ID, n.Labels)
	}
	return all
}

// R3: the texts of an answer are new memory, too.
func TestTextsAreNewMemory(t *testing.T) {
	apart := func(what string, of, from []string) {
		t.Helper()
		for _, got := range of {
			for _, s := range from {
				if lies(got, s) {
					t.Errorf("%s: %q lies in %q", what, got, s)
				}
			}
		}
	}
	s, _ := intent.GetState(strings.Clone(laidState(spacious())))
	for _, o := range smallOps() {
		o.Work.Selector, o.Node.Labels, o.Work.ID, o.Node.ID = strings.Clone("gpu,zone"), strings.Clone("gpu=y"), strings.Clone(o.Work.ID), strings.Clone(o.Node.ID)
		got, _ := intent.Apply(s, o)
		apart("Apply", textsOf(got), append(textsOf(s), o.Work.ID, o.Work.Selector, o.Node.ID, o.Node.Labels, o.ID))
		laid := laidOp(o)
		back, _ := intent.GetOp(laid)
		apart("GetOp", []string{back.ID, back.Work.ID, back.Work.Selector, back.Node.ID, back.Node.Labels}, []string{laid})
	}
	laid := laidState(s)
	got, _ := intent.GetState(laid)
	apart("GetState", textsOf(got), []string{laid})
	if len(textsOf(got)) != 12 {
		t.Error("too few texts:", got)
	}
}
