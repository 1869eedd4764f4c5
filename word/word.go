// Package word is layer 1: see shared/doc/01-word.md.
package word

const (
	wordBits   = 32
	wordBytes  = 4
	longBits   = 64
	mostPrimes = 1000
)

// Turn: x, its bits turned to the right by n places; n counts modulo 32, also below 0.
func Turn(x uint32, n int) uint32 {
	// The low five bits of n are n modulo 32 for every int, the least one too;
	// a shift by all 32 places answers 0, so that no turn needs no case of its own.
	right := uint(n) % wordBits
	return x>>right | x<<(wordBits-right)
}

// Put32: the four bytes of x, the highest first.
func Put32(x uint32) string {
	return string([]byte{byte(x >> 24), byte(x >> 16), byte(x >> 8), byte(x)})
}

// Get32: the word whose Put32 stands in b from at on; false unless four bytes stand there.
func Get32(b string, at int) (uint32, bool) {
	// at+4 could wrap round; the length less 4 can't.
	if at < 0 || at > len(b)-wordBytes {
		return 0, false
	}
	return uint32(b[at])<<24 | uint32(b[at+1])<<16 | uint32(b[at+2])<<8 | uint32(b[at+3]), true
}

// Put64: the eight bytes of x, the highest first.
func Put64(x uint64) string {
	return Put32(uint32(x>>wordBits)) + Put32(uint32(x))
}

// Root: the greatest number whose k-th power is at most n; 0 for k below 1.
func Root(n uint64, k int) uint64 {
	if k < 1 {
		return 0
	}
	if k > longBits {
		k = longBits
	}
	root := uint64(0)
	for bit := longBits - 1; bit >= 0; bit-- {
		candidate := root | 1<<uint(bit)
		if powerFits(candidate, k, n) {
			root = candidate
		}
	}
	return root
}

// powerFits tells whether the k-th power of base is at most n; base and k are above 0.
func powerFits(base uint64, k int, n uint64) bool {
	power := uint64(1)
	for range k {
		// Held against n by a division, because the product could wrap round.
		if power > n/base {
			return false
		}
		power *= base
	}
	return true
}

// Primes: the first n prime numbers, rising; n is held between 0 and 1000.
func Primes(n int) []uint64 {
	if n < 0 {
		n = 0
	}
	if n > mostPrimes {
		n = mostPrimes
	}
	primes := make([]uint64, 0, n)
	for candidate := uint64(2); len(primes) < n; candidate++ {
		if dividedByNone(candidate, primes) {
			primes = append(primes, candidate)
		}
	}
	return primes
}

// dividedByNone tells whether no prime of the list, which holds all below x, divides x.
func dividedByNone(x uint64, primes []uint64) bool {
	for _, p := range primes {
		// A number that isn't prime has a divisor no greater than its square root.
		if p*p > x {
			return true
		}
		if x%p == 0 {
			return false
		}
	}
	return true
}
