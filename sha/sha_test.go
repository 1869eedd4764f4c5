package sha

import (
	"crypto/sha256"
	"encoding/hex"
	"math/big"
	"strings"
	"sync"
	"testing"

	"gantlet/word"
)

// sample is n bytes, high ones among them, that no block repeats.
func sample(n int) string {
	b := make([]byte, n)
	x := uint32(1)
	for i := range b {
		x = x*1664525 + 1013904223
		b[i] = byte(x >> 24)
	}
	return string(b)
}

// want is the digest as the library reckons it.
func want(b string) string {
	sum := sha256.Sum256([]byte(b))
	return string(sum[:])
}

// edges are the lengths at which a block, or the padding's, begins or ends, and their neighbours.
func edges() []int {
	return []int{0, 1, 2, 3, 4, 31, 32, 54, 55, 56, 57, 62, 63, 64, 65, 111, 118, 119, 120, 121, 127, 128, 129, 183, 184, 191, 192, 193, 1000}
}

func TestP2_1_ConstantsAsPublished(t *testing.T) {
	wantFirst := [8]uint32{0x6a09e667, 0xbb67ae85, 0x3c6ef372, 0xa54ff53a, 0x510e527f, 0x9b05688c, 0x1f83d9ab, 0x5be0cd19}
	wantRounds := [64]uint32{
		0x428a2f98, 0x71374491, 0xb5c0fbcf, 0xe9b5dba5, 0x3956c25b, 0x59f111f1, 0x923f82a4, 0xab1c5ed5,
		0xd807aa98, 0x12835b01, 0x243185be, 0x550c7dc3, 0x72be5d74, 0x80deb1fe, 0x9bdc06a7, 0xc19bf174,
		0xe49b69c1, 0xefbe4786, 0x0fc19dc6, 0x240ca1cc, 0x2de92c6f, 0x4a7484aa, 0x5cb0a9dc, 0x76f988da,
		0x983e5152, 0xa831c66d, 0xb00327c8, 0xbf597fc7, 0xc6e00bf3, 0xd5a79147, 0x06ca6351, 0x14292967,
		0x27b70a85, 0x2e1b2138, 0x4d2c6dfc, 0x53380d13, 0x650a7354, 0x766a0abb, 0x81c2c92e, 0x92722c85,
		0xa2bfe8a1, 0xa81a664b, 0xc24b8b70, 0xc76c51a3, 0xd192e819, 0xd6990624, 0xf40e3585, 0x106aa070,
		0x19a4c116, 0x1e376c08, 0x2748774c, 0x34b0bcb5, 0x391c0cb3, 0x4ed8aa4a, 0x5b9cca4f, 0x682e6ff3,
		0x748f82ee, 0x78a5636f, 0x84c87814, 0x8cc70208, 0x90befffa, 0xa4506ceb, 0xbef9a3f7, 0xc67178f2,
	}
	first, rounds := Constants()
	if first != wantFirst {
		t.Errorf("the first state is %x", first)
	}
	if rounds != wantRounds {
		t.Errorf("the rounds' words are %x", rounds)
	}
}

func TestP2_1_ConstantsAreTheGreatest(t *testing.T) {
	first, rounds := Constants()
	check := func(got uint32, p uint64, k int) {
		bound := new(big.Int).Lsh(new(big.Int).SetUint64(p), uint(32*k))
		exponent := big.NewInt(int64(k))
		root := new(big.Int).SetUint64(word.Root(p, k)<<32 | uint64(got))
		if new(big.Int).Exp(root, exponent, nil).Cmp(bound) > 0 {
			t.Errorf("root %d of %d: %x is above it", k, p, got)
		}
		root.Add(root, big.NewInt(1))
		if new(big.Int).Exp(root, exponent, nil).Cmp(bound) <= 0 {
			t.Errorf("root %d of %d: %x isn't the greatest", k, p, got)
		}
	}
	primes := word.Primes(64)
	for i, got := range first {
		check(got, primes[i], 2)
	}
	for i, got := range rounds {
		check(got, primes[i], 3)
	}
}

func TestP2_1_ConstantsAreReckonedOnce(t *testing.T) {
	Constants()
	if first != firstState() || rounds != roundWords() {
		t.Errorf("reckoned: %x, %x", first, rounds)
	}
	once.Do(func() { t.Error("reckoned again") })
}

// The answers are held against the library's while the variables hold other words, all of them or one alone.
func TestP2_1_AnswersHangOnNoVariable(t *testing.T) {
	wantFirst, wantRounds := Constants()
	begun := New()
	begun.Write(sample(100))
	keptFirst, keptRounds := first, rounds
	defer func() { first, rounds = keptFirst, keptRounds }()
	for i, change := range []func(){
		func() { clear(first[:]) },
		func() { clear(rounds[:]) },
		func() { first, rounds = [8]uint32{}, [64]uint32{} },
		func() { first[7]++ },
		func() { rounds[63]++ },
	} {
		first, rounds = keptFirst, keptRounds
		change()
		gotFirst, gotRounds := Constants()
		if gotFirst != wantFirst || gotRounds != wantRounds {
			t.Errorf("change %d: %x, %x", i, gotFirst, gotRounds)
		}
		for _, n := range edges() {
			if got := Sum(sample(n)); got != want(sample(n)) {
				t.Errorf("change %d: Sum of %d bytes = %x", i, n, got)
			}
		}
		again := begun.Copy()
		again.Write("abc")
		if again.Sum() != want(sample(100)+"abc") || again.Len() != 103 {
			t.Errorf("change %d: %d bytes, digest %x", i, again.Len(), again.Sum())
		}
	}
}

func TestP2_1_ConstantsAreTheCallersOwn(t *testing.T) {
	before := Sum("abc")
	first, rounds := Constants()
	clear(first[:])
	clear(rounds[:])
	againFirst, againRounds := Constants()
	if againFirst[0] != 0x6a09e667 || againRounds[63] != 0xc67178f2 || Sum("abc") != before {
		t.Errorf("a change of what was answered is seen: %x, %x", againFirst[0], againRounds[63])
	}
}

func TestP2_1_SumAsPublished(t *testing.T) {
	for _, c := range []struct{ b, want string }{
		{"", "e3b0c44298fc1c149afbf4c8996fb92427ae41e4649b934ca495991b7852b855"},
		{"abc", "ba7816bf8f01cfea414140de5dae2223b00361a396177a9cb410ff61f20015ad"},
		{"abcdbcdecdefdefgefghfghighijhijkijkljklmklmnlmnomnopnopq", "248d6a61d20638b8e5c026930c3e6039a33ce45964ff2167f6ecedd419db06c1"},
		{strings.Repeat("a", 1000000), "cdc76e5c9914fb9281a1c7e284d73e67f1809a48a497200e046d39ccc7112cd0"},
	} {
		if got := hex.EncodeToString([]byte(Sum(c.b))); got != c.want {
			t.Errorf("Sum of %d bytes = %s, want %s", len(c.b), got, c.want)
		}
	}
}

func TestP2_1_SumOfEveryLength(t *testing.T) {
	b := sample(300)
	for n := range len(b) + 1 {
		if got := Sum(b[:n]); got != want(b[:n]) {
			t.Errorf("Sum of %d bytes = %x, want %x", n, got, want(b[:n]))
		}
	}
}

func TestP2_1_SumOfEveryByte(t *testing.T) {
	for x := range 256 {
		for _, n := range []int{1, 4, 64, 65} {
			b := strings.Repeat(string([]byte{byte(x)}), n)
			if got := Sum(b); got != want(b) {
				t.Errorf("Sum of %d bytes %02x = %x, want %x", n, x, got, want(b))
			}
		}
	}
}

// At 32, 8192 and 2^21 bytes the number of bits reaches one more byte of the length.
func TestP2_1_SumCountsBits(t *testing.T) {
	for _, n := range []int{31, 32, 8191, 8192, 1<<21 - 1, 1 << 21, 1<<21 + 1} {
		b := sample(n)
		if got := Sum(b); got != want(b) {
			t.Errorf("Sum of %d bytes = %x, want %x", n, got, want(b))
		}
	}
}

// Nobody writes 2^61 bytes: the padding alone is held against what the document says of it.
func TestP2_1_PaddingOfGreatCounts(t *testing.T) {
	for _, count := range []uint64{0, 55, 56, 63, 64, 1<<29 + 5, 1<<32 - 1, 1<<61 - 1, 1 << 61, 1<<61 + 3, 1<<64 - 1} {
		got := padding(count)
		zeros := len(got) - 9
		if zeros < 0 || zeros > 63 || (count+1+uint64(zeros))%64 != 56 {
			t.Errorf("padding(%d) has %d bytes", count, len(got))
			continue
		}
		if got != "\x80"+strings.Repeat("\x00", zeros)+word.Put64(count<<3) {
			t.Errorf("padding(%d) = %x", count, got)
		}
	}
}

func TestP2_2_NewIsOfNothing(t *testing.T) {
	h := New()
	if h.Len() != 0 || h.Sum() != want("") {
		t.Errorf("New: %d bytes, digest %x", h.Len(), h.Sum())
	}
	h.Write("")
	if h.Len() != 0 || h.Sum() != want("") {
		t.Errorf("behind nothing: %d bytes, digest %x", h.Len(), h.Sum())
	}
}

func TestP2_2_WriteInTwo(t *testing.T) {
	b := sample(200)
	for _, n := range []int{0, 1, 55, 56, 63, 64, 65, 127, 128, 129, 200} {
		for cut := range n + 1 {
			h := New()
			h.Write(b[:cut])
			h.Write(b[cut:n])
			if h.Sum() != want(b[:n]) || h.Len() != uint64(n) {
				t.Errorf("%d bytes, cut at %d: %d bytes, digest %x", n, cut, h.Len(), h.Sum())
			}
		}
	}
}

func TestP2_2_WriteInParts(t *testing.T) {
	b := sample(1000)
	for _, part := range []int{1, 2, 3, 7, 31, 32, 33, 63, 64, 65, 127, 128, 129, 500, 1000} {
		h := New()
		for at := 0; at < len(b); at += part {
			h.Write(b[at:min(at+part, len(b))])
			h.Write("")
		}
		if h.Sum() != want(b) || h.Len() != 1000 {
			t.Errorf("in parts of %d: %d bytes, digest %x", part, h.Len(), h.Sum())
		}
	}
}

func TestP2_2_SumAndLenBetweenWrites(t *testing.T) {
	b := sample(260)
	h := New()
	for n := range len(b) {
		first, second := h.Sum(), h.Sum()
		if first != want(b[:n]) || second != first || h.Len() != uint64(n) {
			t.Errorf("behind %d bytes: %d, digest %x, then %x", n, h.Len(), first, second)
		}
		h.Write(b[n : n+1])
	}
}

func TestP2_2_CopiesKnowNothingOfEachOther(t *testing.T) {
	b := sample(1000)
	for _, n := range edges() {
		one := New()
		one.Write(b[:n])
		other := one.Copy()
		if other.Sum() != want(b[:n]) || other.Len() != uint64(n) {
			t.Errorf("copy behind %d bytes: %d, digest %x", n, other.Len(), other.Sum())
		}
		for _, more := range edges() {
			one, other := one.Copy(), one.Copy()
			one.Write(b[:more])
			other.Write("x")
			third := other.Copy()
			other.Write(b[more:])
			one.Write("y")
			if one.Sum() != want(b[:n]+b[:more]+"y") || one.Len() != uint64(n+more+1) {
				t.Errorf("%d and %d bytes: the first is %x", n, more, one.Sum())
			}
			if other.Sum() != want(b[:n]+"x"+b[more:]) || other.Len() != uint64(n+1+len(b)-more) {
				t.Errorf("%d and %d bytes: the copy is %x", n, more, other.Sum())
			}
			if third.Sum() != want(b[:n]+"x") || third.Len() != uint64(n+1) {
				t.Errorf("%d and %d bytes: the copy's copy is %x", n, more, third.Sum())
			}
		}
		if one.Sum() != want(b[:n]) || one.Len() != uint64(n) {
			t.Errorf("the first behind its copies' bytes: %d, digest %x", one.Len(), one.Sum())
		}
	}
}

func TestP2_2_HashesKnowNothingOfEachOther(t *testing.T) {
	one, other := New(), New()
	one.Write("ab")
	other.Write("xy")
	one.Write("c")
	if one.Sum() != want("abc") || other.Sum() != want("xy") || New().Sum() != want("") {
		t.Errorf("%x, %x", one.Sum(), other.Sum())
	}
}

func TestP2_2_ManyAtATime(t *testing.T) {
	var all sync.WaitGroup
	for n := range 16 {
		all.Go(func() {
			b := sample(100 * n)
			if got := Sum(b); got != want(b) {
				t.Errorf("Sum of %d bytes = %x", len(b), got)
			}
		})
	}
	all.Wait()
}
