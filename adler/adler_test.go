package adler_test

import (
	"hash/adler32"
	"math"
	"math/big"
	"math/rand"
	"strings"
	"testing"

	"billet/adler"
)

const modulus = 65521

// reduced is n modulo the modulus, in arithmetic without bounds.
func reduced(n *big.Int) uint32 {
	return uint32(new(big.Int).Mod(n, big.NewInt(modulus)).Int64())
}

// parts are the reduced halves of a checksum.
func parts(sum uint32) (low, high *big.Int) {
	return big.NewInt(int64(sum&0xffff) % modulus), big.NewInt(int64(sum>>16) % modulus)
}

// whole is the checksum of two halves.
func whole(low, high *big.Int) uint32 {
	return reduced(high)<<16 | reduced(low)
}

// added is the chapter's definition of Add, which reduces behind each byte.
func added(sum uint32, s string) uint32 {
	low, high := sum&0xffff%modulus, sum>>16%modulus
	for i := range len(s) {
		low = (low + uint32(s[i])) % modulus
		high = (high + low) % modulus
	}
	return high<<16 | low
}

// joined is the chapter's definition of Join.
func joined(a, b uint32, long int) uint32 {
	lowA, highA := parts(a)
	lowB, highB := parts(b)
	before := new(big.Int).Sub(lowA, big.NewInt(1))
	high := new(big.Int).Mul(big.NewInt(int64(reduced(big.NewInt(int64(long))))), before)
	return whole(new(big.Int).Add(before, lowB), high.Add(high, highA).Add(high, highB))
}

// rolled is the chapter's definition of Roll.
func rolled(sum uint32, out, in byte, long int) uint32 {
	low, high := parts(sum)
	low.Sub(low, big.NewInt(int64(out))).Add(low, big.NewInt(int64(in)))
	times := new(big.Int).Mul(big.NewInt(int64(reduced(big.NewInt(int64(long))))), big.NewInt(int64(out)))
	high.Sub(high, times).Sub(high, big.NewInt(1)).Add(high, big.NewInt(int64(reduced(low))))
	return whole(low, high)
}

// edgeSums are checksums with both halves around the bounds; those beyond the modulus are no text's.
func edgeSums() []uint32 {
	edges := []uint32{0, 1, 2, 255, 256, 32768, modulus - 256, modulus - 2, modulus - 1, modulus, modulus + 1, 65535}
	var all []uint32
	for _, high := range edges {
		for _, low := range edges {
			all = append(all, high<<16|low)
		}
	}
	return all
}

// edgeLongs are lengths around the multiples of the modulus and around the bounds.
func edgeLongs() []int {
	all := []int{math.MinInt, math.MinInt + 1, math.MaxInt - 1, math.MaxInt}
	for _, m := range []int{0, 1 << 16, 1 << 31, 1 << 32, modulus, 2 * modulus, modulus * modulus, math.MaxInt / modulus * modulus} {
		for d := -2; d <= 2; d++ {
			all = append(all, m+d, -m+d)
		}
	}
	return all
}

// randomText is one of so many bytes; every second one has bytes at the edges alone.
func randomText(random *rand.Rand, long int) string {
	s := make([]byte, long)
	random.Read(s)
	if random.Intn(2) == 0 {
		for i := range s {
			s[i] = "\x00\x01\xfe\xff"[s[i]%4]
		}
	}
	return string(s)
}

// canonical tells whether both halves of a checksum are reduced.
func canonical(sum uint32) bool {
	return sum&0xffff < modulus && sum>>16 < modulus
}

// D1: the chapter's examples and others that are worked out by hand.
func TestSumTells(t *testing.T) {
	for _, c := range []struct {
		s    string
		want uint32
	}{
		{"", 1}, {"a", 0x00620062}, {"Wikipedia", 0x11e60398}, {"abc", 0x024d0127},
		{"\x00", 0x00010001}, {"\x00\x00\x00", 0x00030001}, {"\x01\x00", 0x00040002}, {"\xff", 0x01000100},
		{"é", 195 + 1 | (195+1+195+169+1)<<16 + 169},
		{strings.Repeat("\x00", modulus-1), 0xfff00001}, {strings.Repeat("\x00", modulus), 0x00000001},
		{strings.Repeat("\x00", modulus+1), 0x00010001},
		{strings.Repeat("\x01", 65519), (65520*65521/2-1)%modulus<<16 | 65520},
		{strings.Repeat("\x01", 65520), (65521*65522/2 - 1) % modulus << 16},
	} {
		if got := adler.Sum(c.s); got != c.want {
			t.Errorf("Sum of %d bytes %.12q is %#08x, not %#08x", len(c.s), c.s, got, c.want)
		}
	}
}

// D1: texts of all short lengths, and long ones around the bounds, as the definition and as Go's library sum them.
func TestSumIsTheDefinition(t *testing.T) {
	random := rand.New(rand.NewSource(1))
	longs := []int{5551, 5552, 5553, 65519, 65520, 65521, 65522, 65535, 65536, 65537, 131071, 131072, 131073, 200000}
	for long := range 600 {
		longs = append(longs, long)
	}
	for _, long := range longs {
		for _, s := range []string{randomText(random, long), strings.Repeat("\xff", long), strings.Repeat("\x00", long), strings.Repeat("\x01", long)} {
			got := adler.Sum(s)
			if got != added(1, s) || got != adler32.Checksum([]byte(s)) || !canonical(got) {
				t.Fatalf("Sum of %d bytes %.12q is %#08x, not %#08x", long, s, got, added(1, s))
			}
		}
	}
}

// D1: a text so long that its high half, unreduced, would not fit in 64 bits.
func TestSumOfAHugeText(t *testing.T) {
	if testing.Short() {
		t.Skip("300 MB")
	}
	const long = 300_000_000
	n := big.NewInt(long)
	low := new(big.Int).Mul(n, big.NewInt(255))
	// Bytes 255 alone: the low half behind the n-th is 1 + 255 n.
	high := new(big.Int).Mul(low, big.NewInt(long+1))
	high.Rsh(high, 1).Add(high, n)
	if high.BitLen() < 64 {
		t.Fatal("the text is too short for this test")
	}
	if got, want := adler.Sum(strings.Repeat("\xff", long)), whole(low.Add(low, big.NewInt(1)), high); got != want {
		t.Errorf("%#08x, not %#08x", got, want)
	}
}

// D1: Add starts with any halves, also such as are not reduced; without bytes, it reduces alone.
func TestAddIsTheDefinition(t *testing.T) {
	random := rand.New(rand.NewSource(2))
	texts := []string{"", "\x00", "\x01", "\xff", "\xff\xff", randomText(random, 300), strings.Repeat("\xff", 70000)}
	for _, sum := range edgeSums() {
		for _, s := range texts {
			if got := adler.Add(sum, s); got != added(sum, s) || !canonical(got) {
				t.Errorf("Add(%#08x, %d bytes %.12q) is %#08x, not %#08x", sum, len(s), s, got, added(sum, s))
			}
		}
	}
	for _, c := range []struct{ sum, want uint32 }{
		{0, 0}, {1, 1}, {0xfff0fff0, 0xfff0fff0}, {0xfff1fff0, 0x0000fff0}, {0xfff0fff1, 0xfff00000}, {0xffffffff, 0x000e000e},
	} {
		if got := adler.Add(c.sum, ""); got != c.want {
			t.Errorf("Add(%#08x, nothing) is %#08x, not %#08x", c.sum, got, c.want)
		}
	}
}

// D1: a text added in two parts, wherever it is cut, has the sum of the whole.
func TestAddGoesOn(t *testing.T) {
	s := randomText(rand.New(rand.NewSource(3)), 700)
	for cut := range len(s) + 1 {
		if got := adler.Add(adler.Sum(s[:cut]), s[cut:]); got != adler.Sum(s) {
			t.Errorf("cut at %d: %#08x, not %#08x", cut, got, adler.Sum(s))
		}
	}
}

// D2: Join of any numbers is the definition's: halves that are not reduced or 0, lengths that are negative or greater than the modulus.
func TestJoinIsTheDefinition(t *testing.T) {
	sums, random := edgeSums(), rand.New(rand.NewSource(4))
	for _, long := range edgeLongs() {
		for _, a := range sums {
			for _, b := range sums {
				if got := adler.Join(a, b, long); got != joined(a, b, long) || !canonical(got) {
					t.Fatalf("Join(%#08x, %#08x, %d) is %#08x, not %#08x", a, b, long, got, joined(a, b, long))
				}
			}
		}
	}
	for range 20000 {
		a, b, long := random.Uint32(), random.Uint32(), int(random.Uint64())
		if got := adler.Join(a, b, long); got != joined(a, b, long) {
			t.Fatalf("Join(%#08x, %#08x, %d) is %#08x, not %#08x", a, b, long, got, joined(a, b, long))
		}
	}
}

// D2: numbers that are worked out by hand.
func TestJoinTells(t *testing.T) {
	for _, c := range []struct {
		a, b uint32
		long int
		want uint32
	}{
		{1, 1, 0, 1}, {1, 1, -7, 1}, {1, 1, math.MinInt, 1},
		{0, 0, 0, 0x0000fff0}, {0, 0, 1, 0xfff0fff0}, {0, 0, -1, 0x0001fff0},
		{0x00620062, 1, 0, 0x00620062}, {1, 0x00620062, 1, 0x00620062},
		{2, 1, modulus, 2}, {2, 1, modulus + 1, 0x00010002}, {2, 1, -1, 0xfff00002}, {2, 1, modulus - 1, 0xfff00002}, {2, 1, -modulus, 2},
		{0xfff0fff0, 0xfff0fff0, 1, 0xffedffee}, {0xffffffff, 1, 0, 0x000e000e}, {1, 0xffffffff, 9, 0x000e000e},
		{adler.Sum("Wiki"), adler.Sum("pedia"), 5, 0x11e60398},
	} {
		if got := adler.Join(c.a, c.b, c.long); got != c.want {
			t.Errorf("Join(%#08x, %#08x, %d) is %#08x, not %#08x", c.a, c.b, c.long, got, c.want)
		}
	}
}

// D3 leans on section 'Roll': Roll of any numbers is the definition's, also of windows that no text has.
func TestRollIsTheDefinition(t *testing.T) {
	random := rand.New(rand.NewSource(5))
	for _, long := range edgeLongs() {
		for _, sum := range edgeSums() {
			for _, out := range []byte{0, 1, 127, 128, 255} {
				for _, in := range []byte{0, 1, 127, 128, 255} {
					if got := adler.Roll(sum, out, in, long); got != rolled(sum, out, in, long) || !canonical(got) {
						t.Fatalf("Roll(%#08x, %d, %d, %d) is %#08x, not %#08x", sum, out, in, long, got, rolled(sum, out, in, long))
					}
				}
			}
		}
	}
	for range 20000 {
		sum, out, in, long := random.Uint32(), byte(random.Intn(256)), byte(random.Intn(256)), int(random.Uint64())
		if got := adler.Roll(sum, out, in, long); got != rolled(sum, out, in, long) {
			t.Fatalf("Roll(%#08x, %d, %d, %d) is %#08x, not %#08x", sum, out, in, long, got, rolled(sum, out, in, long))
		}
	}
}

// D3 leans on section 'Roll': numbers that are worked out by hand.
func TestRollTells(t *testing.T) {
	for _, c := range []struct {
		sum     uint32
		out, in byte
		long    int
		want    uint32
	}{
		{adler.Sum("ab"), 'a', 'c', 2, adler.Sum("bc")}, {adler.Sum("z"), 'z', 'z', 1, adler.Sum("z")}, {adler.Sum("z"), 'z', 'y', 1, adler.Sum("y")},
		{1, 0, 0, 0, 1}, {0, 0, 0, 0, 0xfff00000}, {0, 1, 0, 0, 0xffeffff0}, {0, 1, 0, -1, 0xfff0fff0}, {0, 1, 0, 1, 0xffeefff0},
		{0, 0, 255, 7, 0x00fe00ff}, {0x0000fff0, 0, 1, 3, 0xfff00000}, {0xffffffff, 0, 0, 9, 0x001b000e},
		{1, 1, 1, modulus, 1}, {1, 1, 1, modulus + 1, 0xfff00001}, {1, 2, 2, -1, 0x00020001},
	} {
		if got := adler.Roll(c.sum, c.out, c.in, c.long); got != c.want {
			t.Errorf("Roll(%#08x, %d, %d, %d) is %#08x, not %#08x", c.sum, c.out, c.in, c.long, got, c.want)
		}
	}
}

// D3: Join has the sum of the one text behind the other, whatever their lengths.
func TestJoinOfTexts(t *testing.T) {
	random := rand.New(rand.NewSource(6))
	longs := []int{0, 1, 2, 255, 256, 3000, 65519, 65520, 65521, 65522, 131042, 150000}
	for _, first := range longs {
		for _, second := range longs {
			a, b := randomText(random, first), randomText(random, second)
			if got, want := adler.Join(adler.Sum(a), adler.Sum(b), len(b)), added(1, a+b); got != want {
				t.Errorf("%d and %d bytes: %#08x, not %#08x", first, second, got, want)
			}
		}
	}
}

// D3: Join is the same for three texts, whichever two of them are joined first.
func TestJoinInAnyOrder(t *testing.T) {
	random := rand.New(rand.NewSource(7))
	for range 300 {
		s := randomText(random, 3000)
		i, j := random.Intn(1500), 1500+random.Intn(1500)
		a, b, c := adler.Sum(s[:i]), adler.Sum(s[i:j]), adler.Sum(s[j:])
		left, right := adler.Join(adler.Join(a, b, j-i), c, len(s)-j), adler.Join(a, adler.Join(b, c, len(s)-j), len(s)-i)
		if left != adler.Sum(s) || right != adler.Sum(s) {
			t.Errorf("cut at %d and %d: %#08x and %#08x, not %#08x", i, j, left, right, adler.Sum(s))
		}
	}
}

// D3: Roll has the sum of each window of a text.
func TestRollOfWindows(t *testing.T) {
	random := rand.New(rand.NewSource(8))
	for _, long := range []int{1, 2, 3, 16, 255, 256, 257, 4096, 65520, 65521, 65522, 70000} {
		s := randomText(random, long+200)
		sum := adler.Sum(s[:long])
		for i := range 200 {
			sum = adler.Roll(sum, s[i], s[i+long], long)
			if want := added(1, s[i+1:i+1+long]); sum != want {
				t.Fatalf("window of %d bytes at %d: %#08x, not %#08x", long, i+1, sum, want)
			}
		}
	}
}

// changed is s with the byte at i replaced.
func changed(s string, i int, b byte) string {
	return s[:i] + string([]byte{b}) + s[i+1:]
}

// D3: one other byte makes another sum: each byte of a short text by all others, and some bytes of long ones.
func TestOneByteIsSeen(t *testing.T) {
	random := rand.New(rand.NewSource(9))
	check := func(s string, i int, b byte) {
		if b != s[i] && adler.Sum(changed(s, i, b)) == adler.Sum(s) {
			t.Fatalf("%d bytes: byte %d from %d to %d is not seen", len(s), i, s[i], b)
		}
	}
	for long := range 20 {
		s := randomText(random, long)
		for i := range long {
			for b := range 256 {
				check(s, i, byte(b))
			}
		}
	}
	for _, long := range []int{65520, 65521, 65536, 140000} {
		s := randomText(random, long)
		for range 30 {
			check(s, random.Intn(long), byte(random.Intn(256)))
		}
		for _, i := range []int{0, long / 2, long - 1} {
			check(s, i, s[i]+1)
			check(s, i, ^s[i])
		}
	}
}

// D3: two adjacent bytes exchanged make another sum: all pairs of bytes, all places of a short text, and some places of long ones.
func TestExchangedBytesAreSeen(t *testing.T) {
	random := rand.New(rand.NewSource(10))
	check := func(s string, i int) {
		if s[i] != s[i+1] && adler.Sum(changed(changed(s, i, s[i+1]), i+1, s[i])) == adler.Sum(s) {
			t.Fatalf("%d bytes: those at %d, %d and %d, exchanged, are not seen", len(s), i, s[i], s[i+1])
		}
	}
	for a := range 256 {
		for b := range 256 {
			check(string([]byte{byte(a), byte(b)}), 0)
			check(string([]byte{7, byte(a), byte(b), 250}), 1)
		}
	}
	s := randomText(random, 700)
	for i := range len(s) - 1 {
		check(s, i)
	}
	for _, long := range []int{65519, 65520} {
		s := randomText(random, long)
		check(changed(s, 1, ^s[0]), 0)
		check(changed(s, long-1, ^s[long-2]), long-2)
		for range 60 {
			check(s, random.Intn(long-1))
		}
	}
}
