package varint_test

import (
	"math"
	"math/big"
	"math/rand"
	"slices"
	"strings"
	"testing"

	"billet/varint"
)

// encoding is the chapter's definition of a number's encoding, in arithmetic without bounds.
func encoding(n int) string {
	z := new(big.Int).Mul(big.NewInt(2), big.NewInt(int64(n)))
	if n < 0 {
		z.Neg(z).Sub(z, big.NewInt(1))
	}
	var digits []byte
	base, digit := big.NewInt(128), new(big.Int)
	for {
		z.DivMod(z, base, digit)
		digits = append(digits, byte(digit.Int64()))
		if z.Sign() == 0 {
			break
		}
	}
	for i := range digits[:len(digits)-1] {
		digits[i] += 128
	}
	return string(digits)
}

// leading is the chapter's definition of what Reader.Num removes: the number whose encoding s begins with, and that encoding's length; 0 if there is none.
func leading(s string) (int, int) {
	end := -1
	for i := range len(s) {
		if s[i] < 128 {
			end = i
			break
		}
	}
	if end < 0 || end > 0 && s[end] == 0 {
		return 0, 0
	}
	z := new(big.Int)
	for i := end; i >= 0; i-- {
		z.Mul(z, big.NewInt(128)).Add(z, big.NewInt(int64(s[i]%128)))
	}
	odd := z.Bit(0) == 1
	if odd {
		z.Add(z, big.NewInt(1)).Neg(z)
	}
	z.Quo(z, big.NewInt(2))
	if !z.IsInt64() {
		return 0, 0
	}
	return int(z.Int64()), end + 1
}

// numbers are all those around powers of 2, where encodings grow, the bounds, and some at random.
func numbers() []int {
	all := []int{0, math.MaxInt, math.MinInt}
	for shift := range 63 {
		for d := -2; d <= 2; d++ {
			all = append(all, 1<<shift+d, -1<<shift+d)
		}
	}
	random := rand.New(rand.NewSource(1))
	for range 2000 {
		all = append(all, int(random.Uint64())>>random.Intn(64))
	}
	slices.Sort(all)
	return slices.Compact(all)
}

// N1: examples of the chapter, and the first and last number of each length.
func TestNumTells(t *testing.T) {
	ff := strings.Repeat("\xff", 8)
	for _, c := range []struct {
		n    int
		want string
	}{
		{0, "\x00"}, {-1, "\x01"}, {1, "\x02"}, {-2, "\x03"}, {63, "\x7e"}, {-64, "\x7f"},
		{64, "\x80\x01"}, {-65, "\x81\x01"}, {8191, "\xfe\x7f"}, {-8192, "\xff\x7f"}, {8192, "\x80\x80\x01"},
		{1<<62 - 1, "\xfe" + ff[1:] + "\x7f"}, {-1 << 62, ff + "\x7f"},
		{1 << 62, strings.Repeat("\x80", 9) + "\x01"},
		{math.MaxInt, "\xfe" + ff + "\x01"}, {math.MinInt, "\xff" + ff + "\x01"},
	} {
		if got := varint.Num(c.n); got != c.want {
			t.Errorf("Num(%d) is %q, not %q", c.n, got, c.want)
		}
	}
}

// N1: every encoding is the definition's.
func TestNumIsTheDefinition(t *testing.T) {
	for _, n := range numbers() {
		got := varint.Num(n)
		if got != encoding(n) || len(got) < 1 || len(got) > 10 {
			t.Errorf("Num(%d) is %q, not %q", n, got, encoding(n))
		}
	}
}

// N1: a text stands behind its length in bytes.
func TestTextTells(t *testing.T) {
	for _, c := range []struct{ s, want string }{
		{"", "\x00"}, {"a", "\x02a"}, {"\x00", "\x02\x00"}, {"\xff\x80", "\x04\xff\x80"}, {"é", "\x04é"},
		{strings.Repeat("b", 63), "\x7e" + strings.Repeat("b", 63)},
		{strings.Repeat("c", 64), "\x80\x01" + strings.Repeat("c", 64)},
		{strings.Repeat("d", 8192), "\x80\x80\x01" + strings.Repeat("d", 8192)},
	} {
		if got := varint.Text(c.s); got != c.want {
			t.Errorf("Text of %d bytes is %.20q, not %.20q", len(c.s), got, c.want)
		}
	}
}

// state is all that a Reader tells of itself.
type state struct {
	left      int
	bad, ends bool
}

func stateOf(r *varint.Reader) state { return state{r.Left(), r.Bad(), r.Ends()} }

// N2: a new Reader has all bytes and has not failed; without bytes it ends at once.
func TestNewReader(t *testing.T) {
	for _, s := range []string{"", "\x00", "\x80", "abc"} {
		if got, want := stateOf(varint.New(s)), (state{len(s), false, s == ""}); got != want {
			t.Errorf("New(%q): %v, not %v", s, got, want)
		}
	}
}

// checkNum holds Reader.Num against the definition.
func checkNum(t *testing.T, s string) {
	t.Helper()
	n, long := leading(s)
	want := state{len(s) - long, long == 0, long > 0 && long == len(s)}
	r := varint.New(s)
	if got := r.Num(); got != n || stateOf(r) != want {
		t.Errorf("%q: Num is %d, %v; not %d, %v", s, got, stateOf(r), n, want)
	}
}

// N2: wrong inputs: no end, superfluous zero digits, beyond 64 bits, more than 10 bytes. Nothing is removed.
func TestNumOfNoNumber(t *testing.T) {
	nine, full := strings.Repeat("\x80", 9), strings.Repeat("\xff", 9)
	for _, s := range []string{
		"", "\x80", "\xff", nine, full, nine + "\x80", strings.Repeat("\xff", 1000),
		"\x80\x00", "\x81\x00", "\xff\x00", "\x80\x80\x00", "\x82\x80\x00x", nine + "\x00", full + "\x00",
		nine + "\x02", full + "\x02", full + "\x03", full + "\x7f", nine + "\x40",
		nine + "\x80\x01", nine + "\x80\x00", nine + "\x81\x00", full + "\x81\x00", full + "\xff\x01",
	} {
		r := varint.New(s)
		if got := r.Num(); got != 0 || stateOf(r) != (state{len(s), true, false}) {
			t.Errorf("%.20q: Num is %d, %v", s, got, stateOf(r))
		}
		checkNum(t, s)
	}
}

// N2: all byte strings of at most two bytes, and many longer ones of the bytes at the edges.
func TestNumOfAnyBytes(t *testing.T) {
	checkNum(t, "")
	for a := range 256 {
		checkNum(t, string([]byte{byte(a)}))
		for b := range 256 {
			checkNum(t, string([]byte{byte(a), byte(b)}))
		}
	}
	edges := "\x00\x01\x02\x7f\x80\x81\xfe\xff"
	random := rand.New(rand.NewSource(2))
	for range 50000 {
		s := make([]byte, random.Intn(13))
		for i := range s {
			s[i] = edges[random.Intn(len(edges))]
			if random.Intn(3) > 0 {
				s[i] |= 128
			}
		}
		checkNum(t, string(s))
	}
}

// N2: Num removes the number alone, whatever follows.
func TestNumLeavesTheRest(t *testing.T) {
	for _, n := range numbers() {
		for _, rest := range []string{"", "\x00", "\x01", "\x80", "\xff\xff", "rest"} {
			r := varint.New(varint.Num(n) + rest)
			if got := r.Num(); got != n || stateOf(r) != (state{len(rest), false, rest == ""}) {
				t.Errorf("%d ahead of %q: %d, %v", n, rest, got, stateOf(r))
			}
		}
	}
}

// N2: Text at its edges: the most that it may have, what remains, negative lengths, no length at all.
func TestReaderText(t *testing.T) {
	huge := varint.Num(math.MaxInt)
	for _, c := range []struct {
		s    string
		most int
		want string
		then state
	}{
		{"\x00", 0, "", state{0, false, true}},
		{"\x00x", 0, "", state{1, false, false}},
		{"\x06abc", 3, "abc", state{0, false, true}},
		{"\x06abcd", 3, "abc", state{1, false, false}},
		{"\x06abcd", math.MaxInt, "abc", state{1, false, false}},
		{"\x04\x80\x00", 2, "\x80\x00", state{0, false, true}},
		{"\x80\x01" + strings.Repeat("x", 65), 64, strings.Repeat("x", 64), state{1, false, false}},
		{"\x80\x01" + strings.Repeat("x", 65), 63, "", state{65, true, false}},
		{"\x80\x01" + strings.Repeat("x", 63), 64, "", state{63, true, false}},
		{"\x06abc", 2, "", state{3, true, false}},
		{"\x06ab", 9, "", state{2, true, false}},
		{"\x02", 1, "", state{0, true, false}},
		{"\x00x", -1, "", state{1, true, false}},
		{"\x02x", -1, "", state{1, true, false}},
		{"\x02x", math.MinInt, "", state{1, true, false}},
		{"\x01x", 9, "", state{1, true, false}},
		{"\x01x", -1, "", state{1, true, false}},
		{"\x01x", -9, "", state{1, true, false}},
		{varint.Num(math.MinInt) + "x", math.MaxInt, "", state{1, true, false}},
		{huge + "x", math.MaxInt, "", state{1, true, false}},
		{huge + "x", math.MaxInt - 1, "", state{1, true, false}},
		{"", 9, "", state{0, true, false}},
		{"\x80", 9, "", state{1, true, false}},
		{"\x80\x00x", 9, "", state{3, true, false}},
	} {
		r := varint.New(c.s)
		if got := r.Text(c.most); got != c.want || stateOf(r) != c.then {
			t.Errorf("%.20q, most %d: %.20q, %v; not %.20q, %v", c.s, c.most, got, stateOf(r), c.want, c.then)
		}
	}
}

// N2, N3: a Reader that has failed stays failed, answers nothing and removes nothing, though good bytes remain.
func TestFailedStaysFailed(t *testing.T) {
	fail := map[string]func(r *varint.Reader){
		"\x80\x00\x02a":     func(r *varint.Reader) { r.Num() },
		"\x80\x00":          func(r *varint.Reader) { r.Text(9) },
		"\x06\x02a":         func(r *varint.Reader) { r.Text(9) },
		"\x04\x02a\x02b":    func(r *varint.Reader) { r.Text(1) },
		"\x01\x02a":         func(r *varint.Reader) { r.Text(9) },
		"\x02a\x80":         func(r *varint.Reader) { r.Text(1); r.Num() },
		"\x02":              func(r *varint.Reader) { r.Text(1) },
		"\x00\x00\x02\x02a": func(r *varint.Reader) { r.Num(); r.Text(0); r.Text(0) },
	}
	for s, how := range fail {
		r := varint.New(s)
		how(r)
		then := stateOf(r)
		if !then.bad || then.ends {
			t.Errorf("%q: %v: not failed", s, then)
		}
		for range 3 {
			if r.Num() != 0 || stateOf(r) != then || r.Text(9) != "" || r.Text(0) != "" || r.Text(-1) != "" || stateOf(r) != then {
				t.Errorf("%q: %v, then %v", s, then, stateOf(r))
			}
		}
	}
}

// N3: numbers and texts in any order are read back, and nothing else: one more fails.
func TestReadBack(t *testing.T) {
	random := rand.New(rand.NewSource(3))
	all := numbers()
	for range 500 {
		var wrote strings.Builder
		var read []func(r *varint.Reader) bool
		for range random.Intn(12) {
			n, s := all[random.Intn(len(all))], strings.Repeat("\x80x\x00", random.Intn(60))
			if random.Intn(2) == 0 {
				wrote.WriteString(varint.Num(n))
				read = append(read, func(r *varint.Reader) bool { return r.Num() == n })
			} else {
				wrote.WriteString(varint.Text(s))
				read = append(read, func(r *varint.Reader) bool { return r.Text(len(s)) == s })
			}
		}
		r := varint.New(wrote.String())
		for i, next := range read {
			if r.Ends() || !next(r) || r.Bad() {
				t.Fatalf("%q: part %d", wrote.String(), i)
			}
		}
		if stateOf(r) != (state{0, false, true}) {
			t.Fatalf("%q: %v behind all", wrote.String(), stateOf(r))
		}
		if r.Num() != 0 || stateOf(r) != (state{0, true, false}) {
			t.Fatalf("%q: %v behind one more", wrote.String(), stateOf(r))
		}
	}
}

// N3: no encoding is a prefix of another one. (Sorted, the first of such a pair would stand right ahead of one that it begins.)
func TestNoPrefix(t *testing.T) {
	var codes []string
	for n := -20000; n <= 20000; n++ {
		codes = append(codes, varint.Num(n))
	}
	for _, n := range numbers() {
		if n < -20000 || n > 20000 {
			codes = append(codes, varint.Num(n))
		}
	}
	slices.Sort(codes)
	for i := range codes[1:] {
		if strings.HasPrefix(codes[i+1], codes[i]) {
			t.Errorf("%q begins with %q", codes[i+1], codes[i])
		}
	}
}

// N3: an encoding has as few bytes as there are groups of 7 bits, so one byte from -64 to 63.
func TestSmallNumbersAreShort(t *testing.T) {
	for long := 1; long <= 9; long++ {
		edge := 1 << (7*long - 1)
		for _, n := range []int{edge - 1, -edge} {
			if got := len(varint.Num(n)); got != long {
				t.Errorf("%d has %d bytes, not %d", n, got, long)
			}
		}
		for _, n := range []int{edge, -edge - 1} {
			if got := len(varint.Num(n)); got != long+1 {
				t.Errorf("%d has %d bytes, not %d", n, got, long+1)
			}
		}
	}
}

// N3: Readers of the same bytes don't touch each other.
func TestReadersAreIndependent(t *testing.T) {
	s := varint.Num(7) + varint.Text("ab")
	a, b := varint.New(s), varint.New(s)
	if a.Num() != 7 || a.Text(1) != "" || !a.Bad() {
		t.Error("the first one")
	}
	if stateOf(b) != (state{len(s), false, false}) || b.Num() != 7 || b.Text(2) != "ab" || !b.Ends() {
		t.Error("the second one")
	}
	if stateOf(a) != (state{2, true, false}) {
		t.Error("the first one, later")
	}
}
