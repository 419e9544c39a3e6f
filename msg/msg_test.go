package msg_test

import (
	"encoding/binary"
	"fmt"
	"hash/adler32"
	"math"
	"math/rand"
	"regexp"
	"slices"
	"strings"
	"testing"
	"unsafe"

	"billet/api"
	"billet/msg"
)

// The chapter's words, anew: numbers by Go's varints, checksums by its Adler-32, names by a regular expression.

const (
	lastTime  = 1099511627776 // the greatest Boot, Epoch and Version
	lastUntil = 2199023255552 // the greatest Until; the least is its negative
)

// num and text are chapter 1's encodings.
func num(n int) string {
	return string(binary.AppendVarint(nil, int64(n)))
}

func text(s string) string {
	return num(len(s)) + s
}

// nums are numbers, one behind the other.
func nums(numbers ...int) string {
	s := ""
	for _, n := range numbers {
		s += num(n)
	}
	return s
}

// laid is chapter 3's frame of a payload, however long.
func laid(payload string) string {
	s := text(payload)
	return s + string(binary.BigEndian.AppendUint32(nil, adler32.Checksum([]byte(s))))
}

// payloadOf is what the encoding of a message bears, also of one that is not valid.
func payloadOf(m api.Message) string {
	s := nums(m.Kind, m.Cell, m.Boot, m.Epoch, m.Version, m.Until, len(m.Binds))
	for _, b := range m.Binds {
		s += text(b.Work) + text(b.Node) + num(b.Count)
	}
	return s
}

func isBetween(x, low, high int) bool {
	return low <= x && x <= high
}

var name = regexp.MustCompile(`^[a-z0-9]{1,12}$`)

// isBehind reports whether b's place is behind that of every bind of a list.
func isBehind(b api.Bind, list []api.Bind) bool {
	for _, a := range list {
		if a.Work > b.Work || a.Work == b.Work && a.Node >= b.Node {
			return false
		}
	}
	return true
}

// isRight is the chapter's valid message.
func isRight(m api.Message) bool {
	for i, b := range m.Binds {
		if !name.MatchString(b.Work) || !name.MatchString(b.Node) || !isBetween(b.Count, 1, 1000) || !isBehind(b, m.Binds[:i]) {
			return false
		}
	}
	times := isBetween(m.Boot, 0, lastTime) && isBetween(m.Epoch, 0, lastTime) && isBetween(m.Version, 0, lastTime)
	return isBetween(m.Kind, 1, 2) && isBetween(m.Cell, 0, 2) && times && isBetween(m.Until, -lastUntil, lastUntil) && len(m.Binds) <= 64
}

// source is a text that is read from its beginning; wrong tells that something was not what it should be.
type source struct {
	rest  string
	wrong bool
}

func (s *source) num() int {
	n, long := binary.Varint([]byte(s.rest[:min(len(s.rest), 20)]))
	if long <= 0 || num(int(n)) != s.rest[:long] {
		s.wrong = true
		return 0
	}
	s.rest = s.rest[long:]
	return int(n)
}

func (s *source) text() string {
	long := s.num()
	if s.wrong || !isBetween(long, 0, len(s.rest)) {
		s.wrong = true
		return ""
	}
	out := s.rest[:long]
	s.rest = s.rest[long:]
	return out
}

func (s *source) bind() api.Bind {
	b := api.Bind{Work: s.text()}
	b.Node = s.text()
	b.Count = s.num()
	return b
}

// taken is what the chapter says of Get.
func taken(s string) (api.Message, api.Errno) {
	payload := (&source{rest: s}).text()
	if len(payload) > 4096 || laid(payload) != s {
		return api.Message{}, 160
	}
	r := &source{rest: payload}
	m := api.Message{Kind: r.num()}
	for _, n := range []*int{&m.Cell, &m.Boot, &m.Epoch, &m.Version, &m.Until} {
		*n = r.num()
	}
	many := r.num()
	for i := 0; i < many && !r.wrong; i++ {
		m.Binds = append(m.Binds, r.bind())
	}
	if r.wrong || r.rest != "" || many < 0 || !isRight(m) {
		return api.Message{}, 160
	}
	return m, api.OK
}

// same reports whether two messages are equal.
func same(a, b api.Message) bool {
	return a.Kind == b.Kind && a.Cell == b.Cell && a.Boot == b.Boot && a.Epoch == b.Epoch && a.Version == b.Version && a.Until == b.Until && slices.Equal(a.Binds, b.Binds)
}

// brief is what a failure tells of a text: both its ends, if it is long.
func brief(s string) string {
	if len(s) <= 200 {
		return fmt.Sprintf("%q", s)
	}
	return fmt.Sprintf("%q..%q", s[:100], s[len(s)-100:])
}

// checkGet holds Get of a text against the chapter's words, and reports whether there is a message.
func checkGet(t *testing.T, s string) bool {
	t.Helper()
	got, e := msg.Get(s)
	want, errno := taken(s)
	if !same(got, want) || e != errno {
		t.Errorf("Get of %s is %v, %d; not %v, %d", brief(s), got, e, want, errno)
	}
	if again, _ := msg.Put(got); e == api.OK && again != s {
		t.Errorf("Put of Get of %s is %s", brief(s), brief(again))
	}
	return e == api.OK
}

// check holds all three functions of a message against the chapter's words, and reports whether it is valid.
func check(t *testing.T, m api.Message) bool {
	t.Helper()
	right, s, errno := isRight(m), "", api.Errno(160)
	if right {
		s, errno = laid(payloadOf(m)), api.OK
	}
	if got := msg.Right(m); got != right {
		t.Errorf("Right of %v is %v", m, got)
	}
	if got, e := msg.Put(m); got != s || e != errno {
		t.Errorf("Put of %v is %s, %d; not %s, %d", m, brief(got), e, brief(s), errno)
	}
	checkGet(t, laid(payloadOf(m)))
	if got, e := msg.Get(s); right && (!same(got, m) || e != api.OK) {
		t.Errorf("Get of Put of %v is %v, %d", m, got, e)
	}
	return right
}

func bind(work, node string, count int) api.Bind {
	return api.Bind{Work: work, Node: node, Count: count}
}

// grant and report have numbers of their own in each field.
func grant(binds ...api.Bind) api.Message {
	return api.Message{Kind: 1, Cell: 1, Boot: 2, Epoch: 3, Version: 4, Until: 5, Binds: binds}
}

func report(binds ...api.Bind) api.Message {
	return api.Message{Kind: 2, Cell: 2, Boot: 64, Epoch: 8191, Version: 8192, Until: -65, Binds: binds}
}

// some is binds that a message may have.
func some() []api.Bind {
	return []api.Bind{bind("a", "m", 2), bind("a", "n", 1000), bind("b", "a", 63), bind("web1", "0", 64)}
}

// numbered is so many binds that ascend, with the longest names and the greatest Counts.
func numbered(many int) []api.Bind {
	var binds []api.Bind
	for i := range many {
		binds = append(binds, bind("workloadxyz"+string(rune('a'+i/16)), "nodenodexyz"+string(rune('a'+i%16)), 1000))
	}
	return binds
}

// M1, M2: the chapter's example, byte by byte.
func TestTheExample(t *testing.T) {
	const s = "\x0e\x02\x02\x04\x06\x08\x0a\x00\x00\xea\x00\x2f"
	if !msg.Right(grant()) {
		t.Error("not valid")
	}
	if got, e := msg.Put(grant()); got != s || e != api.OK {
		t.Errorf("Put: %q, %d", got, e)
	}
	if got, e := msg.Get(s); !same(got, grant()) || e != api.OK {
		t.Errorf("Get: %v, %d", got, e)
	}
	if api.KindGrant != 1 || api.KindReport != 2 || api.ErrMsgForm != 160 {
		t.Error("the Kinds or the error have other numbers")
	}
}

// M1.

// TestPut: payloads, byte by byte.
func TestPut(t *testing.T) {
	for _, c := range []struct {
		m       api.Message
		payload string
	}{
		{api.Message{Kind: 1}, "\x02\x00\x00\x00\x00\x00\x00"},
		{api.Message{Kind: 2, Until: -1}, "\x04\x00\x00\x00\x00\x01\x00"},
		{report(), "\x04\x04\x80\x01\xfe\x7f\x80\x80\x01\x81\x01\x00"},
		{grant(bind("a", "m", 2)), "\x02\x02\x04\x06\x08\x0a\x02\x02a\x02m\x04"},
		{report(some()...), "\x04\x04\x80\x01\xfe\x7f\x80\x80\x01\x81\x01\x08\x02a\x02m\x04\x02a\x02n\xd0\x0f\x02b\x02a\x7e\x08web1\x020\x80\x01"},
		{api.Message{Kind: 2, Boot: lastTime, Epoch: 1, Version: 0, Until: lastUntil}, "\x04\x00\x80\x80\x80\x80\x80\x40\x02\x00\x80\x80\x80\x80\x80\x80\x01\x00"},
		{api.Message{Kind: 2, Boot: 0, Epoch: lastTime, Version: 1, Until: -lastUntil}, "\x04\x00\x00\x80\x80\x80\x80\x80\x40\x02\xff\xff\xff\xff\xff\x7f\x00"},
		{api.Message{Kind: 1, Boot: 1, Epoch: 0, Version: lastTime, Binds: []api.Bind{bind("abcdefghijkl", "z", 1)}}, "\x02\x00\x02\x00\x80\x80\x80\x80\x80\x40\x00\x02\x18abcdefghijkl\x02z\x02"},
	} {
		if got, e := msg.Put(c.m); got != laid(c.payload) || e != api.OK || !msg.Right(c.m) {
			t.Errorf("Put of %v: %s, %d", c.m, brief(got), e)
		}
		if got, e := msg.Get(laid(c.payload)); !same(got, c.m) || e != api.OK {
			t.Errorf("Get of %q: %v, %d", c.payload, got, e)
		}
		check(t, c.m)
	}
}

// fields are the numbers of a message, each with its least and its greatest.
func fields(m *api.Message) []struct {
	n         *int
	low, high int
} {
	return []struct {
		n         *int
		low, high int
	}{{&m.Kind, 1, 2}, {&m.Cell, 0, 2}, {&m.Boot, 0, lastTime}, {&m.Epoch, 0, lastTime}, {&m.Version, 0, lastTime}, {&m.Until, -lastUntil, lastUntil}}
}

// around are numbers from low to high, and some beyond.
func around(low, high int) []int {
	return []int{math.MinInt, math.MinInt32, low - 1<<32, -high - 1, -high, low - 128, low - 2, low - 1, low, low + 1, 0, 1, 2, 3, 4, 63, 64, 65, 127, 128, 1 << 20, 1 << 32,
		high - 1, high, high + 1, high + 2, high + 128, high + 256, high + 1<<32, 2 * high, 1 << 41, 1 << 42, math.MaxInt32, math.MaxInt - 1, math.MaxInt}
}

// TestNumbers: each number from its least to its greatest, and beyond, alone and with each other one.
func TestNumbers(t *testing.T) {
	for _, start := range []api.Message{grant(), report(some()...)} {
		for i := range fields(&start) {
			m := start
			first := fields(&m)[i]
			for _, *first.n = range around(first.low, first.high) {
				if check(t, m) != isBetween(*first.n, first.low, first.high) {
					t.Errorf("the words don't hold for %v", m)
				}
				for j := range i {
					second, kept := fields(&m)[j], m
					for _, *second.n = range around(second.low, second.high) {
						check(t, m)
					}
					m = kept
				}
			}
		}
	}
}

// TestCounts: Counts from 1 to 1000, in each place.
func TestCounts(t *testing.T) {
	for i := range some() {
		m := report(some()...)
		for n := -3; n <= 1005; n++ {
			m.Binds[i].Count = n
			if check(t, m) != isBetween(n, 1, 1000) {
				t.Errorf("the words don't hold for %v", m)
			}
		}
		for _, m.Binds[i].Count = range around(1, 1000) {
			check(t, m)
		}
	}
}

// someNames are names, and texts that are nearly some; all are behind the name 0, and ahead of zz if they are names.
func someNames() []string {
	return []string{"00", "1", "9", "a", "z", "web1", "abcdefghijkl", "000000000000",
		"", "A", "Z", "a b", "a-b", "a=", "!a", "a,b", "abcdefghijklm", "é", "a\x00", "a\n", "\x00", "\xff", "`", "{", "/", ":", " a", "a ", strings.Repeat("a", 300)}
}

// TestNames: Works and Nodes that are names, and others, in each place.
func TestNames(t *testing.T) {
	for _, s := range someNames() {
		for _, m := range []api.Message{grant(bind(s, "n", 1)), grant(bind("a", s, 1)), grant(bind(s, s, 1)),
			grant(bind("0", "n", 1), bind(s, "n", 1), bind("zz", "n", 1)), grant(bind("a", "0", 1), bind("a", s, 1), bind("a", "zz", 1))} {
			if check(t, m) != name.MatchString(s) {
				t.Errorf("the words don't hold for %v", m)
			}
		}
		check(t, report(bind("zz", "zz", 1), bind(s, s, 1)))
	}
	for b := range 256 {
		s := string([]byte{byte(b)})
		for _, s := range []string{s, "a" + s, s + "a", "abcdefghijk" + s} {
			check(t, grant(bind(s, "n", 1)))
			check(t, grant(bind("a", s, 1)))
		}
	}
}

// TestOrder: binds that ascend by Work and then by Node, and others: all small lists, and all pairs of some names.
func TestOrder(t *testing.T) {
	var all []api.Bind
	for _, work := range []string{"a", "b", "ab"} {
		for _, node := range []string{"a", "b", "aa"} {
			all = append(all, bind(work, node, len(all)+1))
		}
	}
	right := 0
	for _, a := range all {
		for _, b := range all {
			check(t, grant(a, b))
			for _, c := range all {
				if check(t, report(a, b, c)) {
					right++
				}
			}
		}
	}
	if right != 84 { // 3 of 9
		t.Error(right, "lists ascend")
	}
	names := []string{"0", "00", "09", "1", "10", "9", "9z", "a", "a0", "aa", "ab", "b", "zz", "abcdefghijkl", "abcdefghijk"}
	for _, a := range names {
		for _, b := range names {
			for _, m := range []api.Message{grant(bind(a, "n", 2), bind(b, "n", 1)), grant(bind("w", a, 2), bind("w", b, 1)), grant(bind(a, b, 2), bind(b, a, 1)), grant(bind(a, a, 2), bind(b, b, 1))} {
				if check(t, m) != (a < b) {
					t.Errorf("the words don't hold for %v", m)
				}
			}
		}
	}
}

// TestOrderAnywhere: two binds that don't ascend, wherever they are.
func TestOrderAnywhere(t *testing.T) {
	for _, many := range []int{2, 3, 17, 64} {
		for i := range many - 1 {
			twice, swapped := grant(numbered(many)...), grant(numbered(many)...)
			twice.Binds[i+1] = twice.Binds[i]
			twice.Binds[i+1].Count--
			swapped.Binds[i], swapped.Binds[i+1] = swapped.Binds[i+1], swapped.Binds[i]
			if check(t, twice) || check(t, swapped) {
				t.Error("valid with binds", i, "and", i+1)
			}
		}
	}
}

// TestHowMany: up to 64 binds.
func TestHowMany(t *testing.T) {
	for many := range 140 {
		m := report(numbered(many)...)
		if check(t, m) != (many <= 64) {
			t.Error("the words don't hold for", many, "binds")
		}
	}
	m := grant(numbered(65)...)
	check(t, grant(m.Binds[1:]...))
	for _, many := range []int{63, 64, 65, 1000} {
		check(t, grant(make([]api.Bind, many)...))
		check(t, grant(slices.Repeat([]api.Bind{bind("a", "n", 1)}, many)...))
	}
}

// longest is the message whose encoding has the most bytes.
func longest() api.Message {
	return api.Message{Kind: 2, Cell: 2, Boot: lastTime, Epoch: lastTime, Version: lastTime, Until: lastUntil, Binds: numbered(64)}
}

// TestLongest: no valid message is too long for a frame.
func TestLongest(t *testing.T) {
	s, e := msg.Put(longest())
	if !check(t, longest()) || e != api.OK || len(s) != 2+1821+4 {
		t.Error(len(s), "bytes,", e)
	}
}

// M2.

// someMessages are valid ones.
func someMessages() []api.Message {
	last := longest()
	last.Binds = last.Binds[:2]
	return []api.Message{grant(), {Kind: 2}, report(some()...), grant(bind("0", "z", 1)), last, {Kind: 1, Until: -lastUntil, Binds: []api.Bind{bind("a", "n", 999)}}}
}

// spoiled are texts that differ little from s: bytes that are missing, too much, changed or doubled, and superfluous digits.
func spoiled(s string) []string {
	all := []string{s, s + s, s + "\x00", "\x00" + s}
	for i := range s {
		all = append(all, s[:i], s[i:], s[:i]+s[i+1:], s[:i]+s[i:i+1]+s[i:])
		all = append(all, s[:i]+string([]byte{s[i] | 128, 0})+s[i+1:], s[:i]+string([]byte{s[i] | 128, 128, 0})+s[i+1:])
		for b := range 256 {
			other := string([]byte{byte(b)})
			all = append(all, s[:i]+other+s[i+1:], s[:i]+other+s[i:])
		}
	}
	return all
}

// TestSpoiledPayloads: frames that are right, but bear something else.
func TestSpoiledPayloads(t *testing.T) {
	valid, wrong := 0, 0
	for _, m := range someMessages() {
		for _, payload := range spoiled(payloadOf(m)) {
			if checkGet(t, laid(payload)) {
				valid++
			} else {
				wrong++
			}
			checkGet(t, payload)
		}
	}
	if valid < 1000 || wrong < 10000 {
		t.Error("only", valid, "are valid, and", wrong, "are not")
	}
}

// TestSpoiledFrames: payloads that are right, in no frame.
func TestSpoiledFrames(t *testing.T) {
	for _, m := range someMessages() {
		payload := payloadOf(m)
		s := laid(payload)
		for _, other := range spoiled(s) {
			if checkGet(t, other) && other != s {
				t.Errorf("Get of %s has a message", brief(other))
			}
		}
		// A checksum of the payload alone, halves in another order, bytes in another order, and a head with a superfluous digit.
		sum := s[len(s)-4:]
		alone := string(binary.BigEndian.AppendUint32(nil, adler32.Checksum([]byte(payload))))
		head := num(len(payload))
		lenient := head[:len(head)-1] + string([]byte{head[len(head)-1] | 128, 0}) + payload
		for _, other := range []string{payload, text(payload), payload + sum, text(payload) + alone, text(payload) + sum[2:] + sum[:2],
			text(payload) + string([]byte{sum[3], sum[2], sum[1], sum[0]}), lenient + sum, lenient + string(binary.BigEndian.AppendUint32(nil, adler32.Checksum([]byte(lenient)))),
			laid(s), laid(laid(s)), laid("") + s, s + laid(""), laid(payload + s)} {
			if checkGet(t, other) {
				t.Errorf("Get of %s has a message", brief(other))
			}
		}
	}
}

// TestWrongNumbersOfBinds: numbers that are negative, too great, or not those of what follows.
func TestWrongNumbersOfBinds(t *testing.T) {
	for _, many := range []int{0, 1, 2, 4, 63, 64, 65, 66, 100, 128} {
		binds := numbered(many)
		behind := strings.TrimPrefix(payloadOf(grant(binds...)), nums(1, 1, 2, 3, 4, 5, many))
		for _, other := range []int{math.MinInt, -1 << 40, -64, -2, -1, 0, 1, 2, 3, 4, 5, 63, 64, 65, 66, 67, 100, 127, 128, 129, 1 << 31, 1<<32 + 1, 1<<32 + many, 1<<56 + many, math.MaxInt} {
			if got := checkGet(t, laid(nums(1, 1, 2, 3, 4, 5, other)+behind)); got != (other == many && many <= 64) {
				t.Errorf("%d in place of %d: %v", other, many, got)
			}
			checkGet(t, laid(nums(1, 1, 2, 3, 4, 5, other)+behind+behind))
		}
		if checkGet(t, laid(nums(1, 1, 2, 3, 4, 5)+behind)) {
			t.Error("no number ahead of", many, "binds")
		}
	}
}

// TestSuperfluousDigits: a number of an encoding with one more digit 0, without its last byte, or left out; and the same in a bind.
func TestSuperfluousDigits(t *testing.T) {
	head := []int{1, 2, 64, 3, 8192, -65, 1}
	for i, n := range head {
		code := []byte(num(n))
		cut := string(code[:len(code)-1])
		code[len(code)-1] |= 128
		for _, other := range []string{string(code) + "\x00", string(code) + "\x80\x00", cut, string(code)} {
			s := nums(head[:i]...) + other + nums(head[i+1:]...) + "\x02a\x02n\x0e"
			if checkGet(t, laid(s)) {
				t.Errorf("Get of a frame of %q has a message", s)
			}
		}
	}
	for _, s := range []string{"\x82\x00a\x02n\x0e", "\x02a\x82\x00n\x0e", "\x02a\x02n\x8e\x00", "\x02a\x02n", "\x02a\x0e", "\x02a\x02n\x8e", "\x02a\x02", "\x01\x02n\x0e", "\x02a\x01\x0e", "\x02a\x02n\x0f"} {
		if checkGet(t, laid(nums(head...)+s)) {
			t.Errorf("Get of %q has a message", s)
		}
	}
	if !checkGet(t, laid(nums(head...)+"\x02a\x02n\x0e")) {
		t.Error("Get without any of these has no message")
	}
}

// TestAnyText: all short texts, random bytes, and random payloads in frames.
func TestAnyText(t *testing.T) {
	checkGet(t, "")
	for a := range 256 {
		one := string([]byte{byte(a)})
		checkGet(t, one)
		checkGet(t, laid(one))
		for b := range 256 {
			two := one + string([]byte{byte(b)})
			checkGet(t, two)
			checkGet(t, laid(two))
			checkGet(t, laid(two+"\x00\x00\x00\x00\x00"))
		}
	}
	random := rand.New(rand.NewSource(1))
	valid := 0
	for range 100000 {
		s := make([]byte, random.Intn(20))
		for i := range s {
			s[i] = "\x00\x00\x00\x01\x02\x02\x02\x02\x04\x06ab\x80"[random.Intn(13)]
		}
		checkGet(t, string(s))
		if checkGet(t, laid(string(s))) {
			valid++
		}
	}
	if valid < 100 {
		t.Error("only", valid, "are messages")
	}
}

// randomBinds are valid ones mostly.
func randomBinds(random *rand.Rand) []api.Bind {
	var binds []api.Bind
	for range random.Intn(5) * random.Intn(5) {
		names := []string{"a", "a0", "aa", "b", "b9", "c", "0", "1", "10", "9", "zz", "abcdefghijkl"}
		binds = append(binds, bind(names[random.Intn(12)], names[random.Intn(12)], 1+random.Intn(1000)>>random.Intn(10)))
	}
	if random.Intn(10) > 0 {
		slices.SortFunc(binds, func(a, b api.Bind) int { return strings.Compare(a.Work+" "+a.Node, b.Work+" "+b.Node) })
		binds = slices.CompactFunc(binds, func(a, b api.Bind) bool { return a.Work == b.Work && a.Node == b.Node })
	}
	return binds
}

// randomMessage is a valid one mostly.
func randomMessage(random *rand.Rand) api.Message {
	time := func() int { return random.Intn(lastTime+1) >> random.Intn(41) }
	m := api.Message{Kind: 1 + random.Intn(2), Cell: random.Intn(3), Boot: time(), Epoch: time(), Version: time(), Until: 2*time() - 2*time(), Binds: randomBinds(random)}
	if random.Intn(10) == 0 {
		f := fields(&m)[random.Intn(6)]
		numbers := around(f.low, f.high)
		*f.n = numbers[random.Intn(len(numbers))]
	}
	return m
}

// TestRandom: M1 and M2 for messages of all sizes, valid or not.
func TestRandom(t *testing.T) {
	random := rand.New(rand.NewSource(2))
	right := 0
	for range 60000 {
		if check(t, randomMessage(random)) {
			right++
		}
	}
	if right < 30000 || right > 59000 {
		t.Error(right, "are valid")
	}
}

// M3.

// TestDifferentEncodings: different messages have different encodings, none of which begins with another one.
func TestDifferentEncodings(t *testing.T) {
	random := rand.New(rand.NewSource(3))
	seen := map[string]api.Message{}
	for range 40000 {
		m := randomMessage(random)
		m.Boot, m.Epoch, m.Version, m.Until = m.Boot%3, m.Epoch%3, m.Version%3, m.Until%3
		s, e := msg.Put(m)
		if before, there := seen[s]; e == api.OK && there && !same(before, m) {
			t.Errorf("Put of %v and of %v is %s", before, m, brief(s))
		} else if e == api.OK {
			seen[s] = m
		}
	}
	if len(seen) < 10000 {
		t.Error("only", len(seen))
	}
	sorted := []string{}
	for s := range seen {
		sorted = append(sorted, s)
	}
	slices.Sort(sorted)
	for i, s := range sorted[1:] {
		if strings.HasPrefix(s, sorted[i]) {
			t.Errorf("%s begins with %s", brief(s), brief(sorted[i]))
		}
	}
}

// isNone tells if Get of a text has a message.
func isNone(t *testing.T, s string) {
	t.Helper()
	if got, e := msg.Get(s); !same(got, api.Message{}) || e != 160 {
		t.Errorf("Get of %s is %v, %d", brief(s), got, e)
	}
}

// TestPrefixesAndMore: no proper prefix of an encoding is one, and no encoding with more behind it.
func TestPrefixesAndMore(t *testing.T) {
	for _, m := range append(someMessages(), longest(), grant(numbered(3)...)) {
		s, e := msg.Put(m)
		if e != api.OK {
			t.Fatal(m, e)
		}
		for i := range s {
			isNone(t, s[:i])
			isNone(t, s+s[:i+1])
			isNone(t, s+s[i:])
		}
		for b := range 256 {
			one := string([]byte{byte(b)})
			isNone(t, s+one)
			isNone(t, s+one+one)
		}
		isNone(t, s+strings.Repeat("\x00", 5000))
	}
}

// TestChangedBytes: no byte of the payload may be another one.
func TestChangedBytes(t *testing.T) {
	for _, m := range append(someMessages(), longest()) {
		s, _ := msg.Put(m)
		end := len(s) - 4
		for i := end - len(payloadOf(m)); i < end; i++ {
			for b := 1; b < 256; b++ {
				isNone(t, s[:i]+string([]byte{s[i] + byte(b)})+s[i+1:])
			}
		}
	}
}

// R1.

// TestHugeInputs: lists and texts of any length, which nobody could have written.
func TestHugeInputs(t *testing.T) {
	long := strings.Repeat("a", 1<<22)
	list := slices.Repeat([]api.Bind{bind("a", "n", 1)}, 1<<20)
	for _, binds := range [][]api.Bind{list, make([]api.Bind, 1<<20), {bind(long, "n", 1)}, {bind("a", long, 1)}, {bind(long, long, 1), bind(long, long+"b", 1)}} {
		s, e := msg.Put(grant(binds...))
		if s != "" || e != 160 || msg.Right(grant(binds...)) {
			t.Errorf("%d binds: %d", len(binds), e)
		}
	}
	s := laid(payloadOf(grant(some()...)))
	for _, huge := range []string{long, laid(long), s + long, laid(nums(1, 1, 2, 3, 4, 5, 1<<20) + strings.Repeat("\x02a\x02n\x02", 1<<20)), laid(nums(1, 1, 2, 3, 4, 5, 1) + text(long) + text("n") + num(1)),
		strings.Repeat(s, 1<<16), strings.Repeat("\x00", 1<<22), strings.Repeat("\x02", 1<<22), strings.Repeat("\x80", 1<<22), strings.Repeat("\xff", 1<<22)} {
		isNone(t, huge)
	}
	for many := 4080; many <= 4100; many++ {
		checkGet(t, laid(nums(1, 1, 2, 3, 4, 5, 0)+long[:many]))
		checkGet(t, laid(nums(1, 1, 2, 3, 4, 5, 1)+text(long[:many])+text("n")+num(1)))
	}
}

// R3.

// lent returns a text whose memory may be changed.
func lent(s string) (string, []byte) {
	memory := []byte(s)
	return unsafe.String(unsafe.SliceData(memory), len(memory)), memory
}

// TestArgumentsNotChanged: neither the binds nor what is behind their length.
func TestArgumentsNotChanged(t *testing.T) {
	whole := append(some(), bind("spare", "o", 7), bind("", "", -1))
	before := slices.Clone(whole)
	for n := range len(whole) {
		m := report(whole[:n]...)
		msg.Right(m)
		msg.Put(m)
	}
	if !slices.Equal(whole, before) {
		t.Errorf("changed: %v", whole)
	}
}

// TestArgumentsNotKept: what comes in may be changed afterwards, also its texts' memory.
func TestArgumentsNotKept(t *testing.T) {
	work, memoryWork := lent("abc")
	node, memoryNode := lent("m")
	m := grant(bind(work, node, 1))
	want := laid(payloadOf(m))
	s, e := msg.Put(m)
	code, memoryCode := lent(want)
	got, e2 := msg.Get(code)
	for _, memory := range [][]byte{memoryWork, memoryNode, memoryCode} {
		clear(memory)
	}
	m.Binds[0] = bind("x", "y", 9)
	if s != want || e != api.OK {
		t.Errorf("Put: %q, %d", s, e)
	}
	if !same(got, grant(bind("abc", "m", 1))) || e2 != api.OK {
		t.Errorf("Get: %v, %d", got, e2)
	}
}

// TestAnswersApart: neither the lists of two answers nor what is behind their length touch each other.
func TestAnswersApart(t *testing.T) {
	s := laid(payloadOf(report(some()...)))
	first, _ := msg.Get(s)
	second, _ := msg.Get(s)
	behind := first.Binds[:cap(first.Binds)]
	for i := range behind {
		behind[i] = bind("z", "z", 9)
	}
	if !same(second, report(some()...)) {
		t.Errorf("the other answer: %v", second)
	}
	if again, e := msg.Get(s); !same(again, report(some()...)) || e != api.OK {
		t.Errorf("a later answer: %v, %d", again, e)
	}
}

// R4.

// TestAgain: nothing is kept from call to call, whatever was asked between two that are alike.
func TestAgain(t *testing.T) {
	for seed := range int64(2000) {
		random := rand.New(rand.NewSource(seed))
		m, other := randomMessage(random), randomMessage(random)
		s, e := msg.Put(m)
		got, e2 := msg.Get(s)
		msg.Right(other)
		between, _ := msg.Put(other)
		msg.Get(between)
		again, e3 := msg.Put(m)
		gotAgain, e4 := msg.Get(again)
		if again != s || e3 != e || !same(gotAgain, got) || e4 != e2 {
			t.Fatalf("%v: %s, %d, %v, %d; then %s, %d, %v, %d", m, brief(s), e, got, e2, brief(again), e3, gotAgain, e4)
		}
	}
}
