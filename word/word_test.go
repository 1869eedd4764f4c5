package word

import (
	"math"
	"math/big"
	"strings"
	"testing"
)

// words are those at which a bit, a byte or a sign could be lost.
func words() []uint32 {
	list := []uint32{0, 1, 2, 0x7f, 0x80, 0xff, 0x100, 0x8000, 0xffff, 0x10000, 0x12345678, 0x7fffffff, 0x80000000, 0x80000001, 0xfffffffe, 0xffffffff}
	for bit := range 32 {
		list = append(list, 1<<bit)
	}
	return list
}

func TestP1_1_Put32(t *testing.T) {
	for _, c := range []struct {
		x    uint32
		want string
	}{
		{0, "\x00\x00\x00\x00"},
		{1, "\x00\x00\x00\x01"},
		{0x01020304, "\x01\x02\x03\x04"},
		{0x80c0e0f0, "\x80\xc0\xe0\xf0"},
		{math.MaxUint32, "\xff\xff\xff\xff"},
	} {
		if got := Put32(c.x); got != c.want {
			t.Errorf("Put32(%x) = %x, want %x", c.x, got, c.want)
		}
	}
}

func TestP1_1_Put64(t *testing.T) {
	for _, c := range []struct {
		x    uint64
		want string
	}{
		{0, "\x00\x00\x00\x00\x00\x00\x00\x00"},
		{1, "\x00\x00\x00\x00\x00\x00\x00\x01"},
		{1 << 32, "\x00\x00\x00\x01\x00\x00\x00\x00"},
		{0x0102030405060708, "\x01\x02\x03\x04\x05\x06\x07\x08"},
		{0xf0e0d0c0b0a09080, "\xf0\xe0\xd0\xc0\xb0\xa0\x90\x80"},
		{math.MaxUint64, "\xff\xff\xff\xff\xff\xff\xff\xff"},
	} {
		if got := Put64(c.x); got != c.want {
			t.Errorf("Put64(%x) = %x, want %x", c.x, got, c.want)
		}
	}
}

func TestP1_1_Get32(t *testing.T) {
	b := "\x01\x02\x03\x04\xf5\xe6\xd7"
	for _, c := range []struct {
		b    string
		at   int
		want uint32
		ok   bool
	}{
		{b, 0, 0x01020304, true},
		{b, 1, 0x020304f5, true},
		{b, 2, 0x0304f5e6, true},
		{b, 3, 0x04f5e6d7, true},
		{b, 4, 0, false},
		{b, 5, 0, false},
		{b, 6, 0, false},
		{b, 7, 0, false},
		{b, 8, 0, false},
		{b, -1, 0, false},
		{b, -4, 0, false},
		{b, math.MinInt, 0, false},
		{b, math.MinInt + 3, 0, false},
		{b, math.MaxInt, 0, false},
		{b, math.MaxInt - 3, 0, false},
		{b, 1 << 32, 0, false},
		{"", 0, 0, false},
		{"", -1, 0, false},
		{"", -4, 0, false},
		{"\x01\x02\x03", 0, 0, false},
		{"\x01\x02\x03", -1, 0, false},
		{"\x00\x00\x00\x00", 0, 0, true},
		{"\xff\xff\xff\xff", 0, math.MaxUint32, true},
	} {
		if got, ok := Get32(c.b, c.at); got != c.want || ok != c.ok {
			t.Errorf("Get32(%x, %d) = %x, %v, want %x, %v", c.b, c.at, got, ok, c.want, c.ok)
		}
	}
}

func TestP1_2_Turn(t *testing.T) {
	for _, c := range []struct {
		x    uint32
		n    int
		want uint32
	}{
		{1, 1, 0x80000000},
		{1, 0, 1},
		{1, 31, 2},
		{1, 32, 1},
		{1, 33, 0x80000000},
		{1, -1, 2},
		{1, -31, 0x80000000},
		{1, -32, 1},
		{1, -33, 2},
		{0x12345678, 8, 0x78123456},
		{0x12345678, -8, 0x34567812},
		{0x12345678, 16, 0x56781234},
		{0x12345678, 64, 0x12345678},
		{0x80000001, 1, 0xc0000000},
		{0, 7, 0},
		{math.MaxUint32, 7, math.MaxUint32},
		{0x12345678, math.MaxInt, 0x2468acf0},
		{0x12345678, math.MinInt, 0x12345678},
		{0x12345678, math.MinInt + 4, 0x81234567},
	} {
		if got := Turn(c.x, c.n); got != c.want {
			t.Errorf("Turn(%x, %d) = %x, want %x", c.x, c.n, got, c.want)
		}
	}
}

// turnByOnes turns by one place at a time, whichever way n says.
func turnByOnes(x uint32, n int) uint32 {
	for ; n > 0; n-- {
		x = x>>1 | x&1<<31
	}
	for ; n < 0; n++ {
		x = x<<1 | x>>31
	}
	return x
}

func TestP1_2_TurnIsManyTurnsByOne(t *testing.T) {
	for _, x := range words() {
		for n := -100; n <= 100; n++ {
			if got, want := Turn(x, n), turnByOnes(x, n); got != want {
				t.Errorf("Turn(%x, %d) = %x, want %x", x, n, got, want)
			}
		}
	}
}

func TestP1_2_Root(t *testing.T) {
	for _, c := range []struct {
		n    uint64
		k    int
		want uint64
	}{
		{26, 3, 2},
		{27, 3, 3},
		{28, 3, 3},
		{15, 2, 3},
		{16, 2, 4},
		{17, 2, 4},
		{26, 0, 0},
		{26, -1, 0},
		{26, math.MinInt, 0},
		{0, 0, 0},
		{math.MaxUint64, 0, 0},
		{math.MaxUint64, -3, 0},
		{0, 1, 0},
		{0, 2, 0},
		{0, 64, 0},
		{0, 65, 0},
		{0, math.MaxInt, 0},
		{1, 1, 1},
		{1, 2, 1},
		{1, 64, 1},
		{1, 65, 1},
		{1, math.MaxInt, 1},
		{12345, 1, 12345},
		{math.MaxUint64, 1, math.MaxUint64},
		{math.MaxUint64, 2, math.MaxUint32},
		{math.MaxUint64, 3, 2642245},
		{math.MaxUint64, 4, 65535},
		{math.MaxUint64, 32, 3},
		{math.MaxUint64, 63, 2},
		{math.MaxUint64, 64, 1},
		{math.MaxUint64, 65, 1},
		{math.MaxUint64, math.MaxInt, 1},
		{1 << 63, 63, 2},
		{1<<63 - 1, 63, 1},
		{1<<63 - 1, 64, 1},
		{math.MaxUint32 * math.MaxUint32, 2, math.MaxUint32},
		{math.MaxUint32*math.MaxUint32 - 1, 2, math.MaxUint32 - 1},
	} {
		if got := Root(c.n, c.k); got != c.want {
			t.Errorf("Root(%d, %d) = %d, want %d", c.n, c.k, got, c.want)
		}
	}
}

// power is reckoned without any bound, so that it can be above every uint64.
func power(base uint64, k int) *big.Int {
	return new(big.Int).Exp(new(big.Int).SetUint64(base), big.NewInt(int64(k)), nil)
}

func TestP1_2_RootIsTheGreatest(t *testing.T) {
	numbers := []uint64{0, 1, 2, 3, 7, 8, 9, 100, 999, 1000, 1 << 32, 1<<32 - 1, 1<<63 - 1, 1 << 63, 3486784401, 12157665459056928801, math.MaxUint64 - 1, math.MaxUint64}
	for _, n := range numbers {
		for k := 1; k <= 64; k++ {
			root := Root(n, k)
			whole := new(big.Int).SetUint64(n)
			if power(root, k).Cmp(whole) > 0 {
				t.Errorf("Root(%d, %d) = %d: its power is above", n, k, root)
			}
			if root < math.MaxUint64 && power(root+1, k).Cmp(whole) <= 0 {
				t.Errorf("Root(%d, %d) = %d: the next one's power fits too", n, k, root)
			}
		}
	}
}

// isPrime tries every number below x.
func isPrime(x uint64) bool {
	for d := uint64(2); d < x; d++ {
		if x%d == 0 {
			return false
		}
	}
	return x > 1
}

func TestP1_2_PrimesAreAllOfThem(t *testing.T) {
	got := Primes(1000)
	if len(got) != 1000 {
		t.Fatalf("Primes(1000) has %d", len(got))
	}
	place := 0
	for x := uint64(0); place < 1000; x++ {
		if !isPrime(x) {
			continue
		}
		if got[place] != x {
			t.Fatalf("Primes(1000)[%d] = %d, want %d", place, got[place], x)
		}
		place++
	}
}

func TestP1_2_PrimesCounts(t *testing.T) {
	whole := Primes(1000)
	for _, c := range []struct{ n, want int }{
		{math.MinInt, 0}, {-1, 0}, {0, 0}, {1, 1}, {2, 2}, {3, 3}, {64, 64},
		{999, 999}, {1000, 1000}, {1001, 1000}, {math.MaxInt, 1000},
	} {
		got := Primes(c.n)
		if len(got) != c.want {
			t.Errorf("Primes(%d) has %d, want %d", c.n, len(got), c.want)
			continue
		}
		for i, p := range got {
			if p != whole[i] {
				t.Errorf("Primes(%d)[%d] = %d, want %d", c.n, i, p, whole[i])
			}
		}
	}
	if whole[0] != 2 || whole[1] != 3 || whole[2] != 5 || whole[63] != 311 || whole[999] != 7919 {
		t.Errorf("Primes(1000) begins %v and ends %d", whole[:3], whole[999])
	}
}

func TestP1_2_PrimesAreNewMemory(t *testing.T) {
	first := Primes(5)
	clear(first[:cap(first)])
	second := Primes(5)
	for i, want := range []uint64{2, 3, 5, 7, 11} {
		if second[i] != want {
			t.Errorf("Primes(5)[%d] = %d behind a change of an earlier answer", i, second[i])
		}
	}
}

func TestP1_3_WhatIsPutIsGot(t *testing.T) {
	for _, x := range words() {
		for _, ahead := range []int{0, 1, 3, 4, 9} {
			b := strings.Repeat("\xa5", ahead) + Put32(x)
			if got, ok := Get32(b, ahead); got != x || !ok {
				t.Errorf("Get32(%x, %d) = %x, %v, want %x", b, ahead, got, ok, x)
			}
			if got, ok := Get32(b+"\x5a", ahead); got != x || !ok {
				t.Errorf("Get32(%x5a, %d) = %x, %v, want %x", b, ahead, got, ok, x)
			}
		}
	}
}

func TestP1_3_WhatIsGotIsPut(t *testing.T) {
	b := "\x00\x7f\x80\xff\x01\xfe\x10\xef\x00"
	for at := range len(b) - 3 {
		x, ok := Get32(b, at)
		if !ok || Put32(x) != b[at:at+4] {
			t.Errorf("Put32 of Get32(%x, %d) = %x, %v", b, at, Put32(x), ok)
		}
	}
}

func TestP1_3_Put64IsTwoWords(t *testing.T) {
	for _, high := range words() {
		for _, low := range words() {
			b := Put64(uint64(high)<<32 | uint64(low))
			gotHigh, okHigh := Get32(b, 0)
			gotLow, okLow := Get32(b, 4)
			if gotHigh != high || gotLow != low || !okHigh || !okLow || len(b) != 8 {
				t.Errorf("Put64 of %x, %x = %x", high, low, b)
			}
		}
	}
}

func TestP1_3_TurnedAllRound(t *testing.T) {
	for _, x := range words() {
		for _, n := range []int{0, 1, 2, 7, 8, 16, 31, 32, 33, 64, -1, -5, -32, -33, math.MaxInt, math.MinInt + 33} {
			if got := Turn(Turn(x, n), 32-n); got != x {
				t.Errorf("Turn of Turn(%x, %d) by %d = %x", x, n, 32-n, got)
			}
		}
	}
}
