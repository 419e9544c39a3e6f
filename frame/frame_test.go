package frame_test

import (
	"encoding/binary"
	"hash/adler32"
	"math"
	"math/rand"
	"slices"
	"strconv"
	"strings"
	"testing"

	"billet/api"
	"billet/frame"
)

// num is the encoding of a number, by Go's library.
func num(n int) string {
	return string(binary.AppendVarint(nil, int64(n)))
}

// summed is a text with its checksum behind it, by Go's library.
func summed(text string) string {
	return text + string(binary.BigEndian.AppendUint32(nil, adler32.Checksum([]byte(text))))
}

// laid is the chapter's definition of a payload's frame, however long the payload.
func laid(payload string) string {
	return summed(num(len(payload)) + payload)
}

// heads are the lengths that a frame may have, by their encodings.
func heads() map[string]int {
	all := map[string]int{}
	for n := range 4097 {
		all[num(n)] = n
	}
	return all
}

// answer is what Take answers.
type answer struct {
	payload string
	long    int
	e       api.Errno
}

var (
	short = answer{e: api.ErrFrameShort}
	bad   = answer{e: api.ErrFrameBad}
)

func take(s string) answer {
	payload, long, e := frame.Take(s)
	return answer{payload, long, e}
}

// good is what Take answers to the frame of a payload.
func good(payload string) answer {
	return answer{payload, len(laid(payload)), api.OK}
}

// taken is the chapter's definition of Take: the checks in their order.
func taken(heads map[string]int, s string) answer {
	if s == "" || len(s) == 1 && s[0] >= 128 {
		return short
	}
	for i := range len(s) {
		long, ok := heads[s[:i+1]]
		switch rest := s[i+1:]; {
		case !ok && i < 9:
			continue
		case !ok:
			return bad
		case len(rest) < long+4:
			return short
		case laid(rest[:long]) != s[:i+1+long+4]:
			return bad
		default:
			return answer{rest[:long], i + 1 + long + 4, api.OK}
		}
	}
	return bad
}

// allTaken is the chapter's definition of All.
func allTaken(heads map[string]int, s string) (payloads []string, total int, e api.Errno) {
	for s != "" {
		a := taken(heads, s)
		if a.e != api.OK {
			return payloads, total, a.e
		}
		payloads, total, s = append(payloads, a.payload), total+a.long, s[a.long:]
	}
	return payloads, total, api.OK
}

// randomText is one of so many bytes, of some kind.
func randomText(random *rand.Rand, long int) string {
	s, kind := make([]byte, long), random.Intn(3)
	random.Read(s)
	for i := range s {
		switch kind {
		case 0:
			s[i] = "\x00\x01\x02\x7f\x80\x81\xfe\xff"[s[i]%8]
		case 1:
			s[i] = "\x00\xff"[s[i]%2]
		}
	}
	return string(s)
}

// longs are lengths of payloads at the edges: of the head's bytes, of the checksum's halves, of what a frame bears.
func longs() []int {
	return []int{0, 1, 2, 3, 4, 5, 62, 63, 64, 65, 127, 128, 129, 255, 256, 257, 258, 1000, 4094, 4095, 4096}
}

// changed is s with another byte at i.
func changed(s string, i int, b byte) string {
	return s[:i] + string([]byte{b}) + s[i+1:]
}

// brief is what a failure tells of a text: both its ends, if it is long.
func brief(s string) string {
	if len(s) <= 48 {
		return strconv.Quote(s)
	}
	return strconv.Quote(s[:24]) + ".." + strconv.Quote(s[len(s)-24:])
}

func (a answer) String() string {
	return brief(a.payload) + " " + strconv.Itoa(a.long) + " " + strconv.Itoa(int(a.e))
}

// F1: the chapter's examples and others that are worked out by hand.
func TestLayTells(t *testing.T) {
	for _, c := range []struct{ payload, want string }{
		{"", "\x00\x00\x01\x00\x01"},
		{"a", "\x02a\x00\x67\x00\x64"},
		{"ab", "\x04ab\x01\x33\x00\xc8"},
		{"\x00", "\x02\x00\x00\x06\x00\x03"},
		{"\xff", "\x02\xff\x01\x05\x01\x02"},
		{strings.Repeat("\x00", 63), "\x7e" + strings.Repeat("\x00", 63) + "\x1f\xc0\x00\x7f"},
		{strings.Repeat("\x00", 64), "\x80\x01" + strings.Repeat("\x00", 64) + "\x21\x83\x00\x82"},
		{strings.Repeat("\x00", 4096), "\x80\x40" + strings.Repeat("\x00", 4096) + "\x11\xf6\x00\xc1"},
	} {
		if got, e := frame.Lay(c.payload); got != c.want || e != api.OK {
			t.Errorf("Lay of %s is %s, %d; not %s", brief(c.payload), brief(got), e, brief(c.want))
		}
	}
}

// F1: payloads of every length that a frame may bear.
func TestLayIsTheDefinition(t *testing.T) {
	random := rand.New(rand.NewSource(1))
	for long := range 4097 {
		for _, payload := range []string{randomText(random, long), strings.Repeat("\xff", long)} {
			if got, e := frame.Lay(payload); got != laid(payload) || e != api.OK {
				t.Fatalf("Lay of %s is %s, %d; not %s", brief(payload), brief(got), e, brief(laid(payload)))
			}
		}
	}
}

// F1: too long a payload has no frame.
func TestLayRefuses(t *testing.T) {
	for _, long := range []int{4097, 4098, 8191, 8192, 8193, 65535, 65536, 65536 + 4096, 1 << 24} {
		if got, e := frame.Lay(strings.Repeat("a", long)); got != "" || e != api.ErrArg {
			t.Errorf("Lay of %d bytes is %s, %d", long, brief(got), e)
		}
	}
}

// F2: the chapter's examples, and each of the checks ahead of the ones behind it.
func TestTakeTells(t *testing.T) {
	a, long := laid("a"), strings.Repeat("x", 4097)
	for _, c := range []struct {
		s    string
		want answer
	}{
		{a, answer{"a", 6, api.OK}}, {a[:5], short}, {"\x00\x00\x01\x00\x01", answer{"", 5, api.OK}},
		{laid(long[:4096]), answer{long[:4096], 4102, api.OK}},
		// Nothing, or one byte that another one must follow, even if no length begins so.
		{"", short}, {"\x80", short}, {"\x81", short}, {"\xfe", short}, {"\xff", short},
		// Two such bytes are no beginning of a length.
		{"\x80\x80", bad}, {"\xff\xff", bad}, {"\x80\x80\x01", bad}, {"\x82\x80\x00", bad},
		// Numbers that are no lengths, however few bytes follow.
		{"\x01", bad}, {"\x7f", bad}, {"\x03", bad}, {"\x81\x01", bad}, {num(-4096), bad}, {num(math.MinInt), bad},
		{num(4097), bad}, {num(4098), bad}, {num(8192), bad}, {num(math.MaxInt), bad}, {num(1<<32 + 1), bad}, {num(1 << 63 >> 1), bad},
		{laid(long), bad}, {summed(num(-1)), bad}, {summed(num(-1) + "a"), bad},
		// Lengths with superfluous digits, and no numbers at all, though the checksum is right.
		{"\x80\x00", bad}, {"\x82\x00", bad}, {"\xfe\x00", bad}, {summed("\x80\x00"), bad}, {summed("\x82\x00a"), bad},
		{summed("\x80\x80\x00"), bad}, {summed("\x80\x81\x00" + long[:64]), bad}, {strings.Repeat("\x80", 10), bad}, {strings.Repeat("\xff", 5000), bad},
		// Fewer bytes than the length asks for, be they right or wrong.
		{"\x00", short}, {"\x02", short}, {"\x7e", short}, {"\x80\x01", short}, {"\xfe\x3f", short}, {"\x80\x40", short},
		{"\x00\x00\x01\x00", short}, {"\x00\xff\xff\xff", short}, {"\x02b\x00\x67\x00", short}, {"\x02\x01\x01\x01\x01", short},
		{"\x80\x40" + long[:4096] + "\xff\xff\xff", short}, {laid(long[:4096])[:4101], short},
		// Bytes enough, but others: the head's, the payload's, the checksum's, and its halves or bytes in another order.
		{"\x02b" + a[2:], bad}, {"\x00" + a[1:], bad}, {"\x00a" + a[2:], bad}, {"\x00\x00\x00\x00\x00", bad}, {"\x00\x01\x00\x01\x00", bad},
		{"\x00\x00\x01\x00\x02", bad}, {"\x00\x01\x01\x00\x01", bad}, {"\x02a\x00\x64\x00\x67", bad}, {"\x02a\x64\x00\x67\x00", bad},
		{"\x02a\x00\x62\x00\x62", bad}, {"\x00" + a, bad}, {a[:5] + "\x00" + a[5:], bad}, {a[:2] + a, bad}, {"\x04ab\x01\x33\x00\xc7", bad},
		// A checksum whose halves are not reduced is another one.
		{"\x00\x00\x01\xff\xf2", bad}, {"\x00\xff\xf2\x00\x01", bad},
	} {
		if got := take(c.s); got != c.want {
			t.Errorf("Take of %s is %v, not %v", brief(c.s), got, c.want)
		}
	}
}

// checkTake holds Take against the definition.
func checkTake(t *testing.T, heads map[string]int, s string) {
	t.Helper()
	if got, want := take(s), taken(heads, s); got != want {
		t.Fatalf("Take of %s is %v, not %v", brief(s), got, want)
	}
}

// F2: all byte strings of at most two bytes, alone, with a few bytes behind them, and with a right checksum of what they ask for.
func TestTakeOfAnyHead(t *testing.T) {
	heads, body := heads(), strings.Repeat("\x55", 9000)
	check := func(head string) {
		for _, rest := range []string{"", "\x00", "\x00\x00\x01", "\x00\x00\x01\x00", "\x01\x02\x03\x04\x05"} {
			checkTake(t, heads, head+rest)
		}
		checkTake(t, heads, summed(head))
		// What the head says, read as leniently as can be.
		if long, n := binary.Varint([]byte(head)); n > 0 && long >= 0 && int(long) <= len(body) {
			checkTake(t, heads, summed(head+body[:long]))
			checkTake(t, heads, summed(head+body[:long])+"\x00")
		}
	}
	check("")
	for a := range 256 {
		check(string([]byte{byte(a)}))
		for b := range 256 {
			check(string([]byte{byte(a), byte(b)}))
		}
	}
}

// F2: longer byte strings: some of any bytes, and frames with bytes changed, left out, put in and cut off.
func TestTakeOfAnyBytes(t *testing.T) {
	heads, random := heads(), rand.New(rand.NewSource(2))
	for range 60000 {
		checkTake(t, heads, randomText(random, random.Intn(14)))
		s := laid(randomText(random, random.Intn(70))) + randomText(random, random.Intn(3))
		i := random.Intn(len(s))
		checkTake(t, heads, changed(s, i, byte(random.Intn(256))))
		checkTake(t, heads, s[:i]+s[i+1:])
		checkTake(t, heads, s[:i]+randomText(random, 1)+s[i:])
		checkTake(t, heads, s[i:])
		checkTake(t, heads, s[:i])
	}
}

// checkAll holds All against what it should answer.
func checkAll(t *testing.T, s string, payloads []string, total int, e api.Errno) {
	t.Helper()
	gotPayloads, gotTotal, gotE := frame.All(s)
	if !slices.Equal(gotPayloads, payloads) || gotTotal != total || gotE != e {
		t.Errorf("All of %s is %d payloads %.20q, %d, %d; not %d payloads %.20q, %d, %d", brief(s), len(gotPayloads), gotPayloads, gotTotal, gotE, len(payloads), payloads, total, e)
	}
}

// F3: all frames up to the end, or up to the first that is none, with what was taken till then.
func TestAllTells(t *testing.T) {
	a, none, big := laid("a"), laid(""), strings.Repeat("\xff", 4096)
	checkAll(t, "", nil, 0, api.OK)
	checkAll(t, a, []string{"a"}, 6, api.OK)
	checkAll(t, none, []string{""}, 5, api.OK)
	checkAll(t, none+none+none, []string{"", "", ""}, 15, api.OK)
	checkAll(t, a+none+laid("bc")+laid(big)+a, []string{"a", "", "bc", big, "a"}, 6+5+7+4102+6, api.OK)
	checkAll(t, laid(a+none)+a, []string{a + none, "a"}, 16+6, api.OK)
	for _, s := range []string{"\x00", "\x02", "\x80", "\xff", "\x02z\x00", a[:5], laid(big)[:4101]} {
		checkAll(t, s, nil, 0, api.ErrFrameShort)
		checkAll(t, a+none+s, []string{"a", ""}, 11, api.ErrFrameShort)
	}
	for _, s := range []string{"\x01", "\x80\x00", "\xff\xff", num(4097), "\x02z" + a[2:], "\x00\x00\x00\x00\x00", laid(big + "x"), "\x81" + a} {
		for _, rest := range []string{"", a, "\x80"} {
			checkAll(t, s+rest, nil, 0, api.ErrFrameBad)
			checkAll(t, a+none+s+rest, []string{"a", ""}, 11, api.ErrFrameBad)
		}
	}
}

// F3: frames one behind the other, whole or with a byte changed, wherever they are cut.
func TestAllIsTheDefinition(t *testing.T) {
	heads, random := heads(), rand.New(rand.NewSource(3))
	for range 400 {
		var b strings.Builder
		for range random.Intn(6) {
			b.WriteString(laid(randomText(random, random.Intn(9)*random.Intn(9))))
		}
		s := b.String()
		if len(s) > 0 && random.Intn(2) == 0 {
			s = changed(s, random.Intn(len(s)), byte(random.Intn(256)))
		}
		for i := range len(s) + 1 {
			payloads, total, e := allTaken(heads, s[:i])
			checkAll(t, s[:i], payloads, total, e)
		}
	}
}

// F3, R3: an answer's list is the caller's own: what is written to it or put behind it is seen in no other answer.
func TestAllAnswersNewLists(t *testing.T) {
	s := laid("a") + laid("b") + laid("c")
	first, _, _ := frame.All(s)
	second, _, _ := frame.All(s)
	first[0] = "x"
	_ = append(first[:1], "y", "z")
	_ = append(second[:3:cap(second)], "w")
	if !slices.Equal(second, []string{"a", "b", "c"}) {
		t.Errorf("%q", second)
	}
	checkAll(t, s, []string{"a", "b", "c"}, 18, api.OK)
}

// F4: a frame of every length is taken, whatever follows it.
func TestTakeWhateverFollows(t *testing.T) {
	random := rand.New(rand.NewSource(4))
	for long := range 4097 {
		payload := randomText(random, long)
		s, want := laid(payload), good(payload)
		for _, rest := range []string{"", "\x00", "\x80", "\xff\xff\xff\xff\xff", s, s[:len(s)-1], randomText(random, 300)} {
			if got := take(s + rest); got != want {
				t.Fatalf("Take of the frame of %s ahead of %s is %v", brief(payload), brief(rest), got)
			}
		}
	}
}

// F4: as many frames as a file of the greatest size has are all taken.
func TestAllOfManyFrames(t *testing.T) {
	random := rand.New(rand.NewSource(5))
	for _, most := range []int{1, 5, 100, 4097} {
		var payloads []string
		var b strings.Builder
		for b.Len() < api.MaxFile {
			payload := randomText(random, random.Intn(most))
			payloads = append(payloads, payload)
			s, e := frame.Lay(payload)
			if e != api.OK {
				t.Fatal(e)
			}
			b.WriteString(s)
		}
		checkAll(t, b.String(), payloads, b.Len(), api.OK)
	}
}

// F4: every proper prefix of a frame is too short.
func TestPrefixIsShort(t *testing.T) {
	random := rand.New(rand.NewSource(6))
	for _, long := range longs() {
		s := laid(randomText(random, long))
		for i := range len(s) {
			if got := take(s[:i]); got != short {
				t.Errorf("Take of %d bytes of %s is %v", i, brief(s), got)
			}
		}
	}
}

// F4: a frame with another byte in the payload or the checksum is bad: all bytes in short ones, some in each place of long ones.
func TestChangedIsBad(t *testing.T) {
	random := rand.New(rand.NewSource(7))
	for _, long := range longs() {
		s := laid(randomText(random, long))
		for i := len(s) - 4 - long; i < len(s); i++ {
			others := []byte{s[i] + 1, s[i] - 1, ^s[i], s[i] ^ 1<<random.Intn(8), byte(random.Intn(256))}
			if long < 70 || i >= len(s)-4 {
				others = others[:0]
				for b := range 256 {
					others = append(others, byte(b))
				}
			}
			for _, b := range others {
				if got := take(changed(s, i, b)); b != s[i] && got != bad {
					t.Fatalf("Take of %s with byte %d now %d is %v", brief(s), i, b, got)
				}
			}
		}
	}
}
