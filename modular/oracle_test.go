package modular_test

import (
	"math/big"
	"testing"

	"sosopt/api"
)

func same[T comparable](t *testing.T, name string, got, want T) {
	t.Helper()
	if got != want {
		t.Errorf("%s: %v, not %v", name, got, want)
	}
}

// generator is a source of bits that is the same in every run.
type generator uint64

func (g *generator) next() uint64 {
	*g ^= *g << 13
	*g ^= *g >> 7
	*g ^= *g << 17
	return uint64(*g)
}

// integer returns a number with up to the given number of bits.
func (g *generator) integer(bits int) *big.Int {
	n := new(big.Int)
	for range (bits + 63) / 64 {
		n.Lsh(n, 64)
		n.Or(n, new(big.Int).SetUint64(g.next()))
	}
	n.And(n, power2(bits).Sub(power2(bits), big.NewInt(1)))
	if g.next()%2 == 0 {
		n.Neg(n)
	}
	return n
}

// fraction returns a number whose numerator and denominator have up to the given
// number of bits.
func (g *generator) fraction(bits int) *big.Rat {
	den := g.integer(bits)
	den.Abs(den)
	return new(big.Rat).SetFrac(g.integer(bits), den.Add(den, big.NewInt(1)))
}

func (g *generator) matrix(rows, cols int) [][]int {
	a := make([][]int, rows)
	for i := range a {
		a[i] = g.vector(cols)
	}
	return a
}

func (g *generator) vector(n int) []int {
	v := make([]int, n)
	for i := range v {
		v[i] = int(g.next())
	}
	return v
}

func power2(n int) *big.Int {
	return new(big.Int).Lsh(big.NewInt(1), uint(n))
}

// sieve returns which numbers below n are prime.
func sieve(n int) []bool {
	prime := make([]bool, n)
	for i := 2; i < n; i++ {
		prime[i] = true
	}
	for i := 2; i*i < n; i++ {
		for j := i * i; prime[i] && j < n; j += i {
			prime[j] = false
		}
	}
	return prime
}

// greatestPrimes returns the n greatest prime numbers that are at most MaxPrime.
func greatestPrimes(n int) []int {
	var list []int
	for p := int64(api.MaxPrime); len(list) < n; p -= 2 {
		if big.NewInt(p).ProbablyPrime(0) {
			list = append(list, int(p))
		}
	}
	return list
}

// notPrimes are numbers that no function accepts as a modulus.
var notPrimes = []int{
	0, 1, -1, -2, -3, -7, 4, 6, 8, 9, 15, 25, 91, 121, 341, 561, 2047, 65536,
	2147483645, 2147483646, 2147483648, 2147483659, 4294967296, 4294967291, 4294967311,
	1 << 62, 1<<63 - 1, -1 << 63, -2147483647, 1<<32 + 2, 1<<32 + 3, -1<<32 + 7, 1<<61 - 1,
}

// primes are moduli of all sizes.
var primes = []int{2, 3, 5, 7, 11, 61, 97, 257, 65521, 65537, 46337, 1000003, 1073741827, 2147483629, 2147483647}

// ints are numbers of all sizes.
var ints = []int{
	0, 1, -1, 2, -2, 3, 6, 7, -7, 10, 60, 61, 96, 97, -97, 1000, 65535, 65536, 65537, 1000003, 2147483646, 2147483647, 2147483648, -2147483647, -2147483648,
	4294967295, 4294967296, -4294967294, 1 << 62, 1<<63 - 1, -1 << 63, -1<<63 + 1,
}

// notNumbers are strings that are not in canonical form.
var notNumbers = []string{
	"", " ", "-", "+", "/", "x", "-x", "+1", "--1", " 1", "1 ", "1\n", "\x00", "1\x00", "\xff", "１", "-0", "+0", "00", "01", "-01", "0/1", "0/2",
	"1/", "/1", "-/1", "1/1", "1/0", "-1/0", "1/-2", "1/02", "01/2", "1//2", "1/2/3", "2/4", "-2/4", "10/15", "1.5", "1.", "1e3", "0x10", "1_000",
}

func residueOf(n *big.Int, p int) *big.Int {
	return new(big.Int).Mod(n, big.NewInt(int64(p)))
}

// bigReduce returns the residue of a number, and false if there is none.
func bigReduce(r *big.Rat, p int) (int, bool) {
	inverse := new(big.Int).ModInverse(r.Denom(), big.NewInt(int64(p)))
	if inverse == nil {
		return 0, false
	}
	return int(residueOf(inverse.Mul(inverse, r.Num()), p).Int64()), true
}

// bigReconstruct tries all numerators and denominators that are small enough.
func bigReconstruct(value, modulus int) string {
	isCoprime := func(a, b int) bool {
		return new(big.Int).GCD(nil, nil, big.NewInt(int64(a)), big.NewInt(int64(b))).String() == "1"
	}
	for d := 1; 2*d*d < modulus; d++ {
		for n := -modulus; n <= modulus; n++ {
			if 2*n*n < modulus && (n-value*d)%modulus == 0 && isCoprime(n, d) && isCoprime(d, modulus) {
				return big.NewRat(int64(n), int64(d)).RatString()
			}
		}
	}
	return ""
}

// leibniz returns the determinant as the sum over all permutations.
func leibniz(a [][]int, p int) int {
	sum := new(big.Int)
	order := make([]int, len(a))
	var extend func(k int, product *big.Int)
	extend = func(k int, product *big.Int) {
		if k == len(a) {
			sum.Add(sum, product)
			return
		}
		for col := range a {
			if position, used := signedPosition(order[:k], col); !used {
				order[k] = col
				next := new(big.Int).Mul(product, big.NewInt(int64(a[k][col])))
				extend(k+1, next.Mul(next, big.NewInt(position)))
			}
		}
	}
	extend(0, big.NewInt(1))
	return int(residueOf(sum, p).Int64())
}

// signedPosition returns the sign that an element contributes to a permutation:
// -1 to the number of earlier elements that are greater.
func signedPosition(earlier []int, element int) (int64, bool) {
	sign := int64(1)
	for _, other := range earlier {
		switch {
		case other == element:
			return 0, true
		case other > element:
			sign = -sign
		}
	}
	return sign, false
}

// multiply returns the product of two matrices modulo p.
func multiply(a, b [][]int, p int) [][]int {
	product := make([][]int, len(a))
	for i := range a {
		product[i] = make([]int, len(b[0]))
		for j := range b[0] {
			sum := new(big.Int)
			for k := range b {
				sum.Add(sum, new(big.Int).Mul(big.NewInt(int64(a[i][k])), big.NewInt(int64(b[k][j]))))
			}
			product[i][j] = int(residueOf(sum, p).Int64())
		}
	}
	return product
}

// column returns a matrix with one column.
func column(v []int) [][]int {
	rows := make([][]int, len(v))
	for i := range v {
		rows[i] = v[i : i+1]
	}
	return rows
}

func clone(a [][]int) [][]int {
	copied := make([][]int, len(a))
	for i, row := range a {
		copied[i] = append([]int(nil), row...)
	}
	return copied
}
