package bag_test

import (
	"fmt"
	"math"
	"math/rand"
	"runtime"
	"slices"
	"strings"
	"testing"
	"unsafe"

	"billet/api"
	"billet/bag"
)

// most is how many messages a bag may have.
const most = 64

// The calls of a bag.
const (
	doSend = iota
	doTake
	doCopy
	doDrop
	doLook
	doLen
	kinds
)

// call is one of them with its argument.
type call struct {
	kind int
	text string
	i    int
}

// Short forms for tables.
func send(s string) call { return call{kind: doSend, text: s} }
func take(i int) call    { return call{kind: doTake, i: i} }
func double(i int) call  { return call{kind: doCopy, i: i} }
func drop(i int) call    { return call{kind: doDrop, i: i} }
func look(i int) call    { return call{kind: doLook, i: i} }
func length() call       { return call{kind: doLen} }

func (c call) String() string {
	name := []string{"Send", "Take", "Copy", "Drop", "Look", "Len"}[c.kind]
	if c.kind == doSend {
		return name + "(" + brief(c.text) + ")"
	}
	return fmt.Sprintf("%s(%d)", name, c.i)
}

// brief is what a failure tells of a text: both its ends, if it is long.
func brief(s string) string {
	if len(s) <= 60 {
		return fmt.Sprintf("%q", s)
	}
	return fmt.Sprintf("%q..%q of %d bytes", s[:20], s[len(s)-20:], len(s))
}

// answer is what a call answers.
type answer struct {
	text string
	yes  bool
	n    int
}

func (a answer) String() string { return fmt.Sprintf("%s, %v, %d", brief(a.text), a.yes, a.n) }

// perform makes a call.
func perform(b *bag.Bag, c call) answer {
	var a answer
	switch c.kind {
	case doSend:
		a.yes = b.Send(c.text)
	case doTake:
		a.text, a.yes = b.Take(c.i)
	case doCopy:
		a.yes = b.Copy(c.i)
	case doDrop:
		a.yes = b.Drop(c.i)
	case doLook:
		a.text, a.yes = b.Look(c.i)
	case doLen:
		a.n = b.Len()
	}
	return a
}

// play makes calls on a new bag.
func play(calls []call) *bag.Bag {
	b := bag.New()
	for _, c := range calls {
		perform(b, c)
	}
	return b
}

// model is a bag by the chapter's words: its elements, each with its number as the key.
type model map[int]string

func newModel() model { return model{} }

// without removes an element: the following ones move up by one.
func (m model) without(i int) {
	last := len(m) - 1
	for ; i < last; i++ {
		m[i] = m[i+1]
	}
	delete(m, last)
}

// perform is what the chapter says of a call.
func (m model) perform(c call) answer {
	s, there := m[c.i]
	full := len(m) == 64
	switch c.kind {
	case doSend:
		if !full {
			m[len(m)] = c.text
		}
		return answer{yes: !full}
	case doTake:
		if there {
			m.without(c.i)
		}
		return answer{text: s, yes: there}
	case doCopy:
		if there && !full {
			m[len(m)] = s
		}
		return answer{yes: there && !full}
	case doDrop:
		if there {
			m.without(c.i)
		}
		return answer{yes: there}
	case doLook:
		return answer{text: s, yes: there}
	}
	return answer{n: len(m)}
}

// list is the elements in order.
func (m model) list() []string {
	var l []string
	for i := range len(m) {
		l = append(l, m[i])
	}
	return l
}

// listOf is the elements of a bag in order, by Len and Look.
func listOf(b *bag.Bag) []string {
	var l []string
	for i := range b.Len() {
		s, _ := b.Look(i)
		l = append(l, s)
	}
	return l
}

// isList tells if a bag does not have these elements, or any that are no elements.
func isList(t *testing.T, b *bag.Bag, want ...string) {
	t.Helper()
	if b.Len() != len(want) {
		t.Errorf("%d elements, not %d", b.Len(), len(want))
	}
	for i, s := range want {
		if got, there := b.Look(i); got != s || !there {
			t.Errorf("Look(%d) is %s, %v; not %s", i, brief(got), there, brief(s))
		}
	}
	for _, i := range []int{-1, len(want)} {
		if got, there := b.Look(i); got != "" || there {
			t.Errorf("Look(%d) is %s, %v", i, brief(got), there)
		}
	}
}

// checkCalls makes calls on a new bag, holds each answer and the elements behind it against the chapter's words, and returns the bag.
func checkCalls(t *testing.T, calls []call) *bag.Bag {
	t.Helper()
	b, m := bag.New(), newModel()
	for k, c := range calls {
		got, want := perform(b, c), m.perform(c)
		if got != want {
			t.Fatalf("the last of %v answers %v; not %v", calls[:k+1], got, want)
		}
		if !slices.Equal(listOf(b), m.list()) {
			t.Fatalf("behind %v: %.200q; not %.200q", calls[:k+1], listOf(b), m.list())
		}
	}
	return b
}

// numbered is so many calls of Send, each of a text of its own.
func numbered(many int) []call {
	var calls []call
	for i := range many {
		calls = append(calls, send(numberedText(i)))
	}
	return calls
}

func numberedText(i int) string { return fmt.Sprintf("m%d", i) }

// numberedTexts are the texts from one number to ahead of another one.
func numberedTexts(from, to int) []string {
	var l []string
	for i := from; i < to; i++ {
		l = append(l, numberedText(i))
	}
	return l
}

// wrong are numbers of no elements of a bag with so many.
func wrong(many int) []int {
	return []int{-1, -2, -many, -many - 1, -64, -65, many, many + 1, 2 * many, 64, 65, 128, 256, 1 << 16, 1 << 32, 1<<32 + 1,
		-(1 << 32), math.MinInt, math.MinInt + 1, math.MinInt + many, math.MinInt32, math.MaxInt32, math.MaxInt - 1, math.MaxInt}
}

// Y1: the chapter's example.
func TestTheExample(t *testing.T) {
	b := bag.New()
	if !b.Send("a") || !b.Send("b") || !b.Send("c") {
		t.Error("not sent")
	}
	if s, there := b.Take(1); s != "b" || !there {
		t.Errorf("Take(1): %q, %v", s, there)
	}
	if s, there := b.Look(1); s != "c" || !there {
		t.Errorf("Look(1): %q, %v", s, there)
	}
	if !b.Copy(0) {
		t.Error("not copied")
	}
	isList(t, b, "a", "c", "a")
	if !b.Drop(0) {
		t.Error("not dropped")
	}
	isList(t, b, "c", "a")
}

// Y1: New, Len and Look.

// TestEmpty: a new bag has nothing, and nothing can be done with it but Send.
func TestEmpty(t *testing.T) {
	for _, i := range append(wrong(0), 0, 1, 2, 63) {
		for _, c := range []call{take(i), double(i), drop(i), look(i)} {
			b := bag.New()
			if got := perform(b, c); got != (answer{}) {
				t.Errorf("%v: %v", c, got)
			}
			isList(t, b)
			if !b.Send("a") {
				t.Errorf("behind %v: not sent", c)
			}
			isList(t, b, "a")
		}
	}
}

// TestLimit: the bag may have as many messages as api says, which is 64.
func TestLimit(t *testing.T) {
	if api.MaxBag != most {
		t.Error(api.MaxBag)
	}
}

// TestLookLeaves: Look and Len change nothing, however often they are called.
func TestLookLeaves(t *testing.T) {
	b := play(numbered(5))
	for range 200 {
		for i := -2; i < 8; i++ {
			b.Look(i)
			b.Len()
		}
	}
	isList(t, b, numberedTexts(0, 5)...)
}

// TestNoElement: numbers of no elements change nothing, for each number of elements.
func TestNoElement(t *testing.T) {
	for many := range most + 1 {
		b := play(numbered(many))
		for _, i := range wrong(many) {
			if 0 <= i && i < many {
				continue
			}
			for _, c := range []call{take(i), double(i), drop(i), look(i)} {
				if got := perform(b, c); got != (answer{}) {
					t.Errorf("%v of %d: %v", c, many, got)
				}
			}
		}
		isList(t, b, numberedTexts(0, many)...)
	}
}

// Y1: Send, Take, Drop and Copy.

// TestSendAppends: each message is the last one; the 65th isn't sent, and nothing changes.
func TestSendAppends(t *testing.T) {
	b := bag.New()
	for i := range most {
		if !b.Send(numberedText(i)) {
			t.Errorf("message %d is not sent", i)
		}
		isList(t, b, numberedTexts(0, i+1)...)
	}
	for range 3 {
		if b.Send("x") || b.Send("") || b.Send("m0") {
			t.Error("one more is sent")
		}
		isList(t, b, numberedTexts(0, most)...)
	}
}

// TestTexts: a message is any bytes, and comes as it was sent.
func TestTexts(t *testing.T) {
	texts := []string{"", "\x00", "a\x00b", "\xff\xfe", "é", "\n", " ", " a ", "a", "a", "A", strings.Repeat("ab", 5000), ""}
	for b := range 256 {
		texts = append(texts, string([]byte{byte(b)}))
	}
	for _, s := range texts {
		b := bag.New()
		if !b.Send(s) || !b.Copy(0) || !b.Send(s+"x") {
			t.Errorf("%s is not sent", brief(s))
		}
		isList(t, b, s, s, s+"x")
		if got, there := b.Take(1); got != s || !there {
			t.Errorf("Take of %s: %s, %v", brief(s), brief(got), there)
		}
		if !b.Drop(0) {
			t.Errorf("%s is not dropped", brief(s))
		}
		isList(t, b, s+"x")
	}
	checkCalls(t, []call{send(""), send(""), take(0), look(0), double(0), drop(0), take(0), take(0), drop(0), double(0)})
}

// TestRemoved: Take and Drop remove each element of bags with each number of them, and those behind it move up.
func TestRemoved(t *testing.T) {
	for many := range most + 1 {
		for i := range many {
			taken, dropped := play(numbered(many)), play(numbered(many))
			if s, there := taken.Take(i); s != numberedText(i) || !there {
				t.Errorf("Take(%d) of %d: %q, %v", i, many, s, there)
			}
			if !dropped.Drop(i) {
				t.Errorf("Drop(%d) of %d", i, many)
			}
			left := append(numberedTexts(0, i), numberedTexts(i+1, many)...)
			isList(t, taken, left...)
			isList(t, dropped, left...)
		}
	}
}

// TestCopied: Copy appends each element of bags with each number of them, unless there are 64.
func TestCopied(t *testing.T) {
	for many := range most + 1 {
		for i := range many {
			b := play(numbered(many))
			copied := b.Copy(i)
			if copied != (many < most) {
				t.Errorf("Copy(%d) of %d: %v", i, many, copied)
			}
			want := numberedTexts(0, many)
			if many < most {
				want = append(want, numberedText(i))
			}
			isList(t, b, want...)
		}
	}
}

// TestFull: at 64 nothing comes in till something leaves, by either way, and then one only.
func TestFull(t *testing.T) {
	for i := range most {
		for _, leave := range []call{take(i), drop(i)} {
			for _, enter := range []call{send("new"), double(0), double(61), send("")} {
				calls := append(numbered(most), send("x"), double(i), look(i), length(), leave, enter, enter, send("y"), length(), double(63), leave, leave, enter, enter, enter)
				b := checkCalls(t, calls)
				if b.Len() != most {
					t.Error(b.Len())
				}
			}
		}
	}
}

// TestCopiesAreElements: a copy and what it was copied from leave on their own, and a copy can be copied.
func TestCopiesAreElements(t *testing.T) {
	b := checkCalls(t, []call{send("a"), send("b"), double(0), double(2), double(1), drop(0), take(1), take(2)})
	isList(t, b, "b", "a")
	full := []call{send("a")}
	for i := range most - 1 {
		full = append(full, double(i))
	}
	isList(t, checkCalls(t, full), slices.Repeat([]string{"a"}, most)...)
}

// TestInOrderAndBackwards: what was sent is taken from either end.
func TestInOrderAndBackwards(t *testing.T) {
	forth, back := play(numbered(most)), play(numbered(most))
	for i := range most {
		if s, there := forth.Take(0); s != numberedText(i) || !there {
			t.Errorf("%q, %v; not message %d", s, there, i)
		}
		if s, there := back.Take(most - 1 - i); s != numberedText(most-1-i) || !there {
			t.Errorf("%q, %v; not message %d", s, there, most-1-i)
		}
	}
	isList(t, forth)
	isList(t, back)
}

// someCalls are a few calls of each kind.
func someCalls() []call {
	calls := []call{send("a"), send("b"), send(""), length()}
	for i := -1; i <= 2; i++ {
		calls = append(calls, take(i), double(i), drop(i), look(i))
	}
	return calls
}

// everyList visits all lists of so many of these calls, behind some first ones.
func everyList(first, calls []call, many int, visit func(list []call)) {
	if many == 0 {
		visit(first)
		return
	}
	for _, c := range calls {
		everyList(append(slices.Clip(first), c), calls, many-1, visit)
	}
}

// TestAllShortLists: each list of up to 4 calls of a few, on a new bag and on some that have messages.
func TestAllShortLists(t *testing.T) {
	everyList(nil, someCalls(), 4, func(list []call) { checkCalls(t, list) })
	for _, first := range [][]call{{send("a"), send("b")}, {send("a"), send("a"), double(0)}, numbered(62), numbered(63), numbered(64)} {
		calls := append(someCalls(), take(61), take(62), take(63), double(62), double(63), drop(62), drop(63), look(63), look(64))
		everyList(first, calls, 2, func(list []call) { checkCalls(t, list) })
	}
}

// randomCall is a call, of few texts so that some are alike; of 8 that could change something, so many are Send or Copy.
func randomCall(random *rand.Rand, entering int) call {
	c := call{kind: random.Intn(kinds), i: random.Intn(68) - 2}
	if random.Intn(2) == 0 {
		c.i = random.Intn(6) - 1
	}
	if c.kind < doLook {
		c.kind = []int{doTake, doDrop}[random.Intn(2)]
		if random.Intn(8) < entering {
			c.kind = []int{doSend, doCopy}[random.Intn(2)]
		}
	}
	if c.kind == doSend {
		return send(string([]byte("abc"))[:random.Intn(4)] + strings.Repeat("x", random.Intn(3)))
	}
	return call{kind: c.kind, i: c.i}
}

// TestRandomLists: long lists of calls, some of which fill the bag or empty it again and again.
func TestRandomLists(t *testing.T) {
	for seed := range int64(400) {
		random := rand.New(rand.NewSource(seed))
		var calls []call
		for range 4 {
			entering := random.Intn(8) + 1
			for range random.Intn(150) {
				calls = append(calls, randomCall(random, entering))
			}
		}
		checkCalls(t, calls)
	}
}

// Y2.

// tally is how often each text came into a bag, minus how often it left.
type tally map[string]int

// note counts a call, by what it answered and by what Look answered ahead of it.
func (n tally) note(c call, a answer, element string) {
	if !a.yes {
		return
	}
	switch c.kind {
	case doSend:
		n[c.text]++
	case doCopy:
		n[element]++
	case doTake:
		n[a.text]--
	case doDrop:
		n[element]--
	}
}

// holds reports whether a bag has each text as often as was counted.
func (n tally) holds(b *bag.Bag) bool {
	counts := map[string]int{}
	for _, s := range listOf(b) {
		counts[s]++
	}
	for s := range n {
		if n[s] != counts[s] {
			return false
		}
		delete(counts, s)
	}
	return len(counts) == 0
}

// TestTheorem: each text is in the bag as often as it came minus as often as it left, and only what was sent is taken.
func TestTheorem(t *testing.T) {
	took, refused := 0, 0
	for seed := range int64(300) {
		random := rand.New(rand.NewSource(seed + 1000))
		b, counted, sent := bag.New(), tally{}, map[string]bool{}
		entering := random.Intn(6) + 2
		for range 400 {
			c := randomCall(random, entering)
			element, _ := b.Look(c.i)
			a := perform(b, c)
			counted.note(c, a, element)
			if c.kind == doSend && a.yes {
				sent[c.text] = true
			}
			if c.kind == doSend && !a.yes {
				refused++
			}
			if c.kind == doTake && a.yes {
				took++
				if !sent[a.text] {
					t.Fatalf("seed %d: %q was taken, but not sent", seed, a.text)
				}
			}
			if !counted.holds(b) {
				t.Fatalf("seed %d: behind %v: %q; counted %v", seed, c, listOf(b), counted)
			}
		}
	}
	if took < 1000 || refused < 1000 {
		t.Errorf("too few: %d taken, %d refused", took, refused)
	}
}

// TestAllLeave: what was sent and copied is taken, and as often, in whichever order.
func TestAllLeave(t *testing.T) {
	for seed := range int64(100) {
		random := rand.New(rand.NewSource(seed))
		b := play(numbered(40))
		want := numberedTexts(0, 40)
		for range 24 {
			i := random.Intn(40)
			if !b.Copy(i) {
				t.Fatalf("Copy(%d)", i)
			}
			want = append(want, numberedText(i))
		}
		var got []string
		for b.Len() > 0 {
			s, _ := b.Take(random.Intn(b.Len()))
			got = append(got, s)
		}
		slices.Sort(got)
		slices.Sort(want)
		if !slices.Equal(got, want) {
			t.Errorf("seed %d: %q; not %q", seed, got, want)
		}
	}
}

// Bags apart, and R4.

// TestBagsApart: what happens to one bag is nothing to another one, and the same calls have the same answers.
func TestBagsApart(t *testing.T) {
	for seed := range int64(100) {
		random := rand.New(rand.NewSource(seed))
		first, second, twin := bag.New(), bag.New(), bag.New()
		m, other := newModel(), newModel()
		for range 300 {
			c, d := randomCall(random, 5), randomCall(random, 4)
			a := perform(first, c)
			if got, want := perform(second, d), other.perform(d); got != want {
				t.Fatalf("seed %d: %v of the second bag: %v; not %v", seed, d, got, want)
			}
			if want := m.perform(c); a != want || perform(twin, c) != want {
				t.Fatalf("seed %d: %v of the first bag: %v; not %v", seed, c, a, want)
			}
		}
		if !slices.Equal(listOf(first), listOf(twin)) || !slices.Equal(listOf(second), other.list()) {
			t.Fatalf("seed %d: the bags mixed", seed)
		}
	}
	b := play(numbered(3))
	isList(t, bag.New())
	isList(t, b, numberedTexts(0, 3)...)
}

// R1.

// TestLongMessages: messages of any length, copied as often as there is room.
func TestLongMessages(t *testing.T) {
	b := bag.New()
	long := strings.Repeat("a", 1<<24)
	b.Send(long)
	for range most {
		b.Copy(0)
	}
	if b.Len() != most || b.Send(long) {
		t.Error(b.Len())
	}
	for range most {
		if s, there := b.Take(0); s != long || !there {
			t.Error(len(s), there)
		}
	}
	isList(t, b)
}

// TestManyCalls: a bag lasts, however much goes through it.
func TestManyCalls(t *testing.T) {
	b := play(numbered(60))
	for i := range 200000 {
		if !b.Send(numberedText(60+i)) || b.Len() != 61 {
			t.Fatal(i, b.Len())
		}
		if s, there := b.Take(0); s != numberedText(i) || !there {
			t.Fatal(i, s, there)
		}
	}
}

// R3.

// lent returns a text whose memory may be changed.
func lent(s string) (string, []byte) {
	memory := []byte(s)
	return unsafe.String(unsafe.SliceData(memory), len(memory)), memory
}

// TestArgumentsNotKept: the memory of a message may be changed once it is sent.
func TestArgumentsNotKept(t *testing.T) {
	b := bag.New()
	for _, s := range []string{"a", "web", strings.Repeat("xyz", 1000)} {
		text, memory := lent(s)
		b.Send(text)
		b.Copy(b.Len() - 1)
		if string(memory) != s {
			t.Errorf("%s was changed to %s", brief(s), brief(string(memory)))
		}
		clear(memory)
	}
	isList(t, b, "a", "a", "web", "web", strings.Repeat("xyz", 1000), strings.Repeat("xyz", 1000))
}

// memoryOf is the memory of an answer.
func memoryOf(s string) *byte { return unsafe.StringData(s) }

// TestAnswersApart: no two answers have the same memory, nor one with what is still in the bag.
func TestAnswersApart(t *testing.T) {
	b := play([]call{send("web"), double(0), double(1), send("db")})
	seen := map[*byte]bool{}
	for range 3 {
		for i := range 4 {
			s, _ := b.Look(i)
			if seen[memoryOf(s)] {
				t.Errorf("Look(%d) has the memory of another answer", i)
			}
			seen[memoryOf(s)] = true
		}
	}
	for range 4 {
		s, _ := b.Take(0)
		if seen[memoryOf(s)] {
			t.Errorf("Take of %q has the memory of another answer", s)
		}
		seen[memoryOf(s)] = true
	}
}

// TestAnswersLast: an answer stays, whatever happens to the bag afterwards.
func TestAnswersLast(t *testing.T) {
	b := play(numbered(most))
	looked, _ := b.Look(5)
	taken, _ := b.Take(5)
	for range most {
		b.Drop(0)
	}
	play(numbered(most))
	for range most {
		b.Send("zz")
	}
	if looked != "m5" || taken != "m5" {
		t.Errorf("%q, %q", looked, taken)
	}
}

// TestNothingKept: a message that has left holds no memory, wherever it was.
func TestNothingKept(t *testing.T) {
	b := bag.New()
	before := heap()
	for range most {
		b.Send(strings.Repeat("x", 1<<20))
	}
	for i := range most {
		if leave := []call{take(0), drop(b.Len() - 1), take(b.Len() / 2)}[i%3]; !perform(b, leave).yes {
			t.Errorf("%v of %d", leave, most-i)
		}
	}
	if now := heap(); now > before+1<<24 {
		t.Errorf("%d bytes are kept", now-before)
	}
	isList(t, b)
}

// heap is how many bytes are in use.
func heap() uint64 {
	runtime.GC()
	var m runtime.MemStats
	runtime.ReadMemStats(&m)
	return m.HeapAlloc
}
