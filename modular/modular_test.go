package modular_test

import (
	"math"
	"math/big"
	"slices"
	"strconv"
	"strings"
	"testing"

	"sosopt/api"
	"sosopt/modular"
	"sosopt/rational"
)

func TestP2_1IsPrime(t *testing.T) {
	for n, prime := range sieve(1 << 20) {
		if modular.IsPrime(n) != prime {
			t.Errorf("%d: %v", n, !prime)
		}
	}
	for _, n := range notPrimes {
		same(t, strconv.Itoa(n), modular.IsPrime(n), false)
	}
	for _, n := range primes {
		same(t, strconv.Itoa(n), modular.IsPrime(n), true)
		same(t, strconv.Itoa(-n), modular.IsPrime(-n), false)
		same(t, "greater", modular.IsPrime(n+1<<32), false)
	}
}

func TestP2_1IsPrimeUpToMaxPrime(t *testing.T) {
	for n := api.MaxPrime - 20000; n <= api.MaxPrime; n++ {
		same(t, strconv.Itoa(n), modular.IsPrime(n), big.NewInt(int64(n)).ProbablyPrime(0))
	}
	// Greater prime numbers do not count.
	for n := api.MaxPrime + 1; n <= api.MaxPrime+1000; n++ {
		same(t, strconv.Itoa(n), modular.IsPrime(n), false)
	}
}

// Products of two or three prime numbers that differ by simple factors are the
// composite numbers that a test with few bases is most likely to accept.
func TestP2_1IsPrimeRejectsProducts(t *testing.T) {
	var list []int
	for n, prime := range sieve(46341) {
		if prime {
			list = append(list, n)
		}
	}
	for i, p := range list {
		same(t, "square", modular.IsPrime(p*p), false)
		if i > 0 {
			same(t, "product", modular.IsPrime(p*list[i-1]), false)
		}
		for k := 2; (k*(p-1)+1)*p <= api.MaxPrime && k < 40; k++ {
			same(t, "product", modular.IsPrime((k*(p-1)+1)*p), false)
		}
	}
	// Strong pseudoprimes to the base 2, to the bases 2 and 3, and to 2, 3 and 5.
	for _, n := range []int{2047, 3277, 4033, 4681, 8321, 1373653, 1530787, 1987021, 2284453, 3116107, 25326001, 161304001, 960946321, 1157839381} {
		same(t, strconv.Itoa(n), modular.IsPrime(n), false)
	}
	// Numbers of Carmichael.
	for _, n := range []int{561, 1105, 1729, 2465, 2821, 6601, 8911, 294409, 56052361, 118901521, 172947529, 1299963601} {
		same(t, strconv.Itoa(n), modular.IsPrime(n), false)
	}
}

func TestP2_1NextPrime(t *testing.T) {
	list := sieve(100100)
	next := 0
	for n := len(list) - 1; n >= 0; n-- {
		if n < 100000 {
			p, ok := modular.NextPrime(n)
			same(t, strconv.Itoa(n), p, next)
			same(t, strconv.Itoa(n), ok, true)
		}
		if list[n] {
			next = n
		}
	}
	for n, want := range map[int]int{-5: 2, -1: 2, math.MinInt: 2, math.MinInt + 1: 2, 2147483628: 2147483629, 2147483629: 2147483647, 2147483646: 2147483647, 1073741789: 1073741827} {
		p, ok := modular.NextPrime(n)
		same(t, strconv.Itoa(n), p, want)
		same(t, strconv.Itoa(n), ok, true)
	}
	for _, n := range []int{2147483647, 2147483648, 2147483659, 1 << 32, 1 << 62, math.MaxInt - 1, math.MaxInt} {
		p, ok := modular.NextPrime(n)
		same(t, strconv.Itoa(n), p, 0)
		same(t, strconv.Itoa(n), ok, false)
	}
}

func TestP2_2Inverse(t *testing.T) {
	for _, p := range primes {
		list := slices.Clone(ints)
		for n := -min(p, 300); n <= min(p, 300); n++ {
			list = append(list, n, p+n, -p-n)
		}
		for _, a := range list {
			want := 0
			inverse := new(big.Int).ModInverse(residueOf(big.NewInt(int64(a)), p), big.NewInt(int64(p)))
			if inverse != nil {
				want = int(inverse.Int64())
			}
			got, ok := modular.Inverse(a, p)
			name := strconv.Itoa(a) + " modulo " + strconv.Itoa(p)
			same(t, name, got, want)
			same(t, name, ok, inverse != nil)
		}
	}
	for _, p := range notPrimes {
		for _, a := range ints {
			got, ok := modular.Inverse(a, p)
			same(t, strconv.Itoa(p), got, 0)
			same(t, strconv.Itoa(p), ok, false)
		}
	}
}

func TestP2_2Reduce(t *testing.T) {
	g := generator(1)
	var list []*big.Rat
	for _, n := range ints {
		list = append(list, new(big.Rat).SetInt64(int64(n)))
	}
	for num := int64(-8); num <= 8; num++ {
		for den := int64(2); den <= 12; den++ {
			list = append(list, big.NewRat(num, den))
		}
	}
	for _, p := range primes {
		list = append(list, big.NewRat(5, int64(p)), big.NewRat(int64(p), 3), big.NewRat(-int64(p), 4), big.NewRat(1, 3*int64(p)), big.NewRat(1, int64(p)+1))
	}
	for range 50 {
		list = append(list, g.fraction(40), g.fraction(64), g.fraction(200), g.fraction(3000))
	}
	for _, r := range list {
		for _, p := range primes {
			want, wantOk := bigReduce(r, p)
			got, ok := modular.Reduce(r.RatString(), p)
			name := r.RatString() + " modulo " + strconv.Itoa(p)
			same(t, name, got, want)
			same(t, name, ok, wantOk)
		}
	}
}

func TestP2_2ReduceInvalid(t *testing.T) {
	for _, s := range notNumbers {
		for _, p := range primes {
			got, ok := modular.Reduce(s, p)
			same(t, s, got, 0)
			same(t, s, ok, false)
		}
	}
	for _, p := range notPrimes {
		for _, s := range []string{"0", "1", "-3/2", "x"} {
			got, ok := modular.Reduce(s, p)
			same(t, strconv.Itoa(p), got, 0)
			same(t, strconv.Itoa(p), ok, false)
		}
	}
}

func TestP2_2ReduceKeepsOperations(t *testing.T) {
	g := generator(2)
	for range 300 {
		a, b := g.fraction(60).RatString(), g.fraction(60).RatString()
		for _, p := range primes {
			x, okA := modular.Reduce(a, p)
			y, okB := modular.Reduce(b, p)
			if !okA || !okB {
				continue
			}
			sum, ok := modular.Reduce(rational.Add(a, b), p)
			same(t, "sum", ok, true)
			same(t, "sum", sum, (x+y)%p)
			product, ok := modular.Reduce(rational.Mul(a, b), p)
			same(t, "product", ok, true)
			same(t, "product", product, x*y%p)
			if inverse, ok := modular.Inverse(y, p); ok {
				s, _ := rational.Div(a, b)
				quotient, ok := modular.Reduce(s, p)
				same(t, "quotient", ok, true)
				same(t, "quotient", quotient, x*inverse%p)
			}
		}
	}
}

func checkCombine(t *testing.T, residues, primes []int) {
	t.Helper()
	kept, keptPrimes := slices.Clone(residues), slices.Clone(primes)
	value, product, e := modular.Combine(residues, primes)
	same(t, "error", e, api.OK)
	want := big.NewInt(1)
	for _, p := range primes {
		want.Mul(want, big.NewInt(int64(p)))
	}
	same(t, "product", product, want.String())
	v, ok := new(big.Int).SetString(value, 10)
	if !ok || v.Sign() < 0 || v.Cmp(want) >= 0 || v.String() != value {
		t.Fatalf("%v modulo %v: %s", residues, primes, value)
	}
	for i, p := range primes {
		same(t, "residue", residueOf(v, p).Int64(), residueOf(big.NewInt(int64(residues[i])), p).Int64())
	}
	if !slices.Equal(kept, residues) || !slices.Equal(keptPrimes, primes) {
		t.Error("changed")
	}
}

func TestP2_3Combine(t *testing.T) {
	for a := -3; a < 5; a++ {
		for b := -3; b < 5; b++ {
			for c := -3; c < 9; c++ {
				checkCombine(t, []int{a, b, c}, []int{2, 3, 7})
				checkCombine(t, []int{c, a, b}, []int{7, 2, 5})
			}
		}
	}
	for _, n := range ints {
		for _, p := range primes {
			checkCombine(t, []int{n}, []int{p})
		}
	}
	g := generator(3)
	greatest := greatestPrimes(api.MaxPrimes)
	for n := range api.MaxPrimes + 1 {
		checkCombine(t, g.vector(n), greatest[:n])
	}
	checkCombine(t, g.vector(len(primes)), primes)
	checkCombine(t, make([]int, api.MaxPrimes), greatest)
	checkCombine(t, slices.Repeat([]int{-1}, api.MaxPrimes), greatest)
}

func TestP2_3CombineNothing(t *testing.T) {
	for _, list := range [][]int{nil, {}} {
		value, product, e := modular.Combine(list, nil)
		same(t, "value", value, "0")
		same(t, "product", product, "1")
		same(t, "error", e, api.OK)
	}
}

func TestP2_3CombineErrors(t *testing.T) {
	greatest := greatestPrimes(api.MaxPrimes + 2)
	twos := slices.Repeat([]int{2}, api.MaxPrimes+1)
	for _, c := range []struct {
		residues, primes []int
		want             api.Errno
	}{
		{[]int{1}, nil, api.ErrShape},
		{nil, []int{2}, api.ErrShape},
		{[]int{1, 2}, []int{3}, api.ErrShape},
		{[]int{1}, []int{4, 4}, api.ErrShape},
		{make([]int, api.MaxPrimes+1), greatest, api.ErrShape},
		{make([]int, api.MaxPrimes), greatest[:api.MaxPrimes+1], api.ErrShape},
		{make([]int, api.MaxPrimes+1), greatest[:api.MaxPrimes+1], api.ErrLimit},
		{make([]int, api.MaxPrimes+1), make([]int, api.MaxPrimes+1), api.ErrLimit},
		{twos, twos, api.ErrLimit},
		{make([]int, api.MaxPrimes), make([]int, api.MaxPrimes), api.ErrInvalid},
		{[]int{1, 2}, []int{4, 4}, api.ErrInvalid},
		{[]int{1, 2, 3}, []int{3, 3, 4}, api.ErrInvalid},
		{[]int{1, 1}, []int{2, 2147483659}, api.ErrInvalid},
		{[]int{1, 1}, []int{2, 2}, api.ErrDuplicate},
		{[]int{1, 2}, []int{3, 3}, api.ErrDuplicate},
		{[]int{1, 2, 3}, []int{5, 3, 5}, api.ErrDuplicate},
		{twos[:api.MaxPrimes], twos[:api.MaxPrimes], api.ErrDuplicate},
	} {
		value, product, e := modular.Combine(c.residues, c.primes)
		same(t, "error", e, c.want)
		same(t, "value", value, "")
		same(t, "product", product, "")
	}
	for _, p := range notPrimes {
		value, product, e := modular.Combine([]int{1, 2}, []int{3, p})
		same(t, "error", e, api.ErrInvalid)
		same(t, "value", value, "")
		same(t, "product", product, "")
	}
}

func TestP2_3CombineInvertsReduce(t *testing.T) {
	g := generator(4)
	greatest := greatestPrimes(8)
	for range 200 {
		n := g.integer(8 * 30)
		n.Abs(n)
		residues := make([]int, len(greatest))
		for i, p := range greatest {
			residues[i], _ = modular.Reduce(n.String(), p)
		}
		value, _, e := modular.Combine(residues, greatest)
		same(t, "error", e, api.OK)
		same(t, "value", value, n.String())
	}
}

func checkReconstruct(t *testing.T, value, modulus, want string) {
	t.Helper()
	got, ok := modular.Reconstruct(value, modulus)
	same(t, value+" modulo "+modulus, got, want)
	same(t, value+" modulo "+modulus, ok, want != "")
}

// All moduli, also those that are not prime, and all values are tried.
func TestP2_4Reconstruct(t *testing.T) {
	for modulus := 2; modulus <= 60; modulus++ {
		for value := -modulus - 2; value <= 2*modulus+2; value++ {
			checkReconstruct(t, strconv.Itoa(value), strconv.Itoa(modulus), bigReconstruct(value, modulus))
		}
	}
	for _, modulus := range []int{101, 128, 162, 163, 180, 210, 242, 243} {
		for value := range modulus {
			checkReconstruct(t, strconv.Itoa(value), strconv.Itoa(modulus), bigReconstruct(value, modulus))
		}
	}
}

// Numerator and denominator may be just small enough.
func TestP2_4ReconstructBounds(t *testing.T) {
	g := generator(5)
	for _, bits := range []int{1, 3, 10, 31, 32, 33, 63, 64, 65, 200, 1000} {
		n := g.integer(bits)
		n.Abs(n).Add(n, big.NewInt(1))
		twice := new(big.Int).Mul(n, n)
		twice.Lsh(twice, 1)
		least := new(big.Int).Add(twice, big.NewInt(1))
		checkReconstruct(t, n.String(), least.String(), n.String())
		checkReconstruct(t, new(big.Int).Sub(least, n).String(), least.String(), "-"+n.String())
		den := new(big.Int).ModInverse(n, least)
		want := new(big.Rat).SetFrac(big.NewInt(1), n).RatString()
		checkReconstruct(t, den.String(), least.String(), want)
		if got, _ := modular.Reconstruct(n.String(), twice.String()); got == n.String() {
			t.Errorf("%s modulo %s", got, twice)
		}
	}
	checkReconstruct(t, "0", "2", "")
	checkReconstruct(t, "1", "2", "")
	checkReconstruct(t, "0", "3", "0")
	checkReconstruct(t, "1", "3", "1")
	checkReconstruct(t, "2", "3", "-1")
	checkReconstruct(t, "8", "15", "1/2")
	checkReconstruct(t, "-7", "15", "1/2")
	checkReconstruct(t, "1000000000000000000000000000013", "15", "1/2")
}

func TestP2_4ReconstructInvertsCombine(t *testing.T) {
	g := generator(6)
	greatest := greatestPrimes(api.MaxPrimes)
	for _, count := range []int{1, 2, 3, 5, 12, 33, api.MaxPrimes} {
		for range 30 {
			r := g.fraction(count*31/2 - 2)
			residues := make([]int, count)
			for i, p := range greatest[:count] {
				residues[i], _ = modular.Reduce(r.RatString(), p)
			}
			value, product, e := modular.Combine(residues, greatest[:count])
			same(t, "error", e, api.OK)
			checkReconstruct(t, value, product, r.RatString())
			v, _ := new(big.Int).SetString(value, 10)
			m, _ := new(big.Int).SetString(product, 10)
			checkReconstruct(t, v.Sub(v, m).String(), product, r.RatString())
		}
	}
}

// A random value hardly ever is the residue of a number that is small enough by
// far; if there is one, it has the required properties.
func TestP2_4ReconstructRandomValues(t *testing.T) {
	g := generator(7)
	for range 2000 {
		modulus := g.integer(5 + int(g.next()%100))
		modulus.Abs(modulus).Add(modulus, big.NewInt(2))
		value := g.integer(120)
		got, ok := modular.Reconstruct(value.String(), modulus.String())
		same(t, "ok", ok, got != "")
		if !ok {
			continue
		}
		r, _ := new(big.Rat).SetString(got)
		same(t, "form", r.RatString(), got)
		rest := new(big.Int).Mul(value, r.Denom())
		rest.Sub(r.Num(), rest).Mod(rest, modulus)
		same(t, "rest", rest.Sign(), 0)
		same(t, "divisor", new(big.Int).GCD(nil, nil, r.Denom(), modulus).String(), "1")
		for _, n := range []*big.Int{r.Num(), r.Denom()} {
			twice := new(big.Int).Mul(n, n)
			same(t, "bound", twice.Lsh(twice, 1).Cmp(modulus), -1)
		}
	}
}

func TestP2_4ReconstructInvalid(t *testing.T) {
	for _, s := range append([]string{"1/2", "-7/3", "123456789012345678901234567890/7"}, notNumbers...) {
		checkReconstruct(t, s, "101", "")
		checkReconstruct(t, "1", s, "")
		checkReconstruct(t, s, s, "")
	}
	for _, s := range []string{"1", "0", "-1", "-2", "-101", "-" + strings.Repeat("7", 100)} {
		checkReconstruct(t, "0", s, "")
		checkReconstruct(t, "1", s, "")
	}
}

// matrices calls f with all matrices with the given elements.
func matrices(rows, cols int, elements []int, f func(a [][]int)) {
	a := make([][]int, rows)
	for i := range a {
		a[i] = make([]int, cols)
	}
	var fill func(k int)
	fill = func(k int) {
		if k == rows*cols {
			f(a)
			return
		}
		for _, n := range elements {
			a[k/cols][k%cols] = n
			fill(k + 1)
		}
	}
	fill(0)
}

// kernelSize returns the number of vectors of residues that a maps to 0; p is at
// most 3.
func kernelSize(a [][]int, p int) int {
	size := 0
	residues := []int{0, 1, 2}[:p]
	matrices(len(a[0]), 1, residues, func(x [][]int) {
		if !slices.ContainsFunc(multiply(a, x, p), func(row []int) bool { return row[0] != 0 }) {
			size++
		}
	})
	return size
}

func checkRank(t *testing.T, a [][]int, p, want int) {
	t.Helper()
	kept := clone(a)
	rank, e := modular.Rank(a, p)
	same(t, "error", e, api.OK)
	if rank != want {
		t.Errorf("Rank of %v modulo %d: %d, not %d", a, p, rank, want)
	}
	if !slices.EqualFunc(kept, a, slices.Equal) {
		t.Error("changed")
	}
}

func TestP2_5RankOfSmallMatrices(t *testing.T) {
	for _, size := range [][2]int{{1, 1}, {1, 2}, {2, 1}, {2, 2}, {1, 4}, {4, 1}, {2, 3}, {3, 2}, {3, 3}} {
		matrices(size[0], size[1], []int{0, 1, -1}, func(a [][]int) {
			for _, p := range []int{2, 3} {
				rank, power := size[1], kernelSize(a, p)
				for ; power > 1; power /= p {
					rank--
				}
				checkRank(t, a, p, rank)
			}
		})
	}
}

// The product of two random matrices has the smaller number of columns and rows
// between them as its rank, as good as always if the prime number is great.
func TestP2_5RankOfProducts(t *testing.T) {
	g := generator(8)
	p := api.MaxPrime
	for _, size := range [][3]int{{1, 1, 64}, {64, 1, 1}, {5, 3, 7}, {20, 10, 15}, {64, 40, 64}, {64, 64, 64}, {10, 10, 64}, {64, 7, 9}} {
		a := multiply(g.matrix(size[0], size[1]), g.matrix(size[1], size[2]), p)
		checkRank(t, a, p, min(size[0], size[1], size[2]))
		for _, row := range a {
			row[0] = 0
		}
		checkRank(t, a, p, min(size[0], size[1], size[2]-1))
	}
	zero := make([][]int, api.MaxDim)
	for i := range zero {
		zero[i] = slices.Repeat([]int{-6}, api.MaxDim)
	}
	checkRank(t, zero, 3, 0)
	checkRank(t, zero, 5, 1)
}

func checkDet(t *testing.T, a [][]int, p, want int) {
	t.Helper()
	kept := clone(a)
	det, e := modular.Det(a, p)
	same(t, "error", e, api.OK)
	if det != want {
		t.Errorf("Det of %v modulo %d: %d, not %d", a, p, det, want)
	}
	if !slices.EqualFunc(kept, a, slices.Equal) {
		t.Error("changed")
	}
}

func TestP2_5Det(t *testing.T) {
	for n := 1; n <= 3; n++ {
		matrices(n, n, []int{0, 1, -2}, func(a [][]int) {
			for _, p := range []int{2, 3, 5, api.MaxPrime} {
				checkDet(t, a, p, leibniz(a, p))
			}
		})
	}
	g := generator(9)
	for range 100 {
		for n := 1; n <= 6; n++ {
			a := g.matrix(n, n)
			p := primes[g.next()%uint64(len(primes))]
			checkDet(t, a, p, leibniz(a, p))
		}
	}
	for _, n := range ints {
		for _, p := range primes {
			checkDet(t, [][]int{{n}}, p, leibniz([][]int{{n}}, p))
		}
	}
}

func TestP2_5DetOfPermutations(t *testing.T) {
	for n := 1; n <= api.MaxDim; n++ {
		cycle := make([][]int, n)
		for i := range cycle {
			cycle[i] = make([]int, n)
			cycle[i][(i+1)%n] = 1
		}
		want := 1
		if n%2 == 0 {
			want = 6
		}
		checkDet(t, cycle, 7, want)
		checkDet(t, cycle, 2, 1)
	}
}

func TestP2_5DetIsMultiplicative(t *testing.T) {
	g := generator(10)
	for _, n := range []int{2, 10, 33, api.MaxDim} {
		for _, p := range []int{2, 7, 65537, api.MaxPrime} {
			a, b := g.matrix(n, n), g.matrix(n, n)
			x, _ := modular.Det(a, p)
			y, _ := modular.Det(b, p)
			checkDet(t, multiply(a, b, p), p, x*y%p)
		}
	}
}

func checkSolve(t *testing.T, a [][]int, b []int, p int) {
	t.Helper()
	kept, keptB := clone(a), slices.Clone(b)
	det, _ := modular.Det(a, p)
	x, e := modular.Solve(a, b, p)
	if det == 0 {
		same(t, "error", e, api.ErrSingular)
		same(t, "elements", len(x), 0)
		return
	}
	same(t, "error", e, api.OK)
	same(t, "elements", len(x), len(b))
	for _, n := range x {
		same(t, "residue", n >= 0 && n < p, true)
	}
	for i, row := range multiply(a, column(x), p) {
		same(t, "product", int64(row[0]), residueOf(big.NewInt(int64(b[i])), p).Int64())
	}
	if !slices.EqualFunc(kept, a, slices.Equal) || !slices.Equal(keptB, b) {
		t.Error("changed")
	}
}

func TestP2_5Solve(t *testing.T) {
	for n := 1; n <= 2; n++ {
		matrices(n, n+1, []int{0, 1, 2, -2}, func(a [][]int) {
			square, b := make([][]int, n), make([]int, n)
			for i, row := range a {
				square[i], b[i] = row[:n:n], row[n]
			}
			for _, p := range []int{2, 3, 7} {
				checkSolve(t, square, b, p)
			}
		})
	}
	g := generator(11)
	for _, n := range []int{1, 2, 3, 4, 7, 20, api.MaxDim} {
		for _, p := range primes {
			checkSolve(t, g.matrix(n, n), g.vector(n), p)
		}
	}
}

// The spare capacity of the rows is not used either.
func TestP2_5SolveKeepsSpareCapacity(t *testing.T) {
	elements := []int{1, 2, 3, 4, 5, 6}
	b := []int{5, 6, 7}
	x, e := modular.Solve([][]int{elements[:2], elements[2:4]}, b[:2], 7)
	same(t, "error", e, api.OK)
	if !slices.Equal(x, []int{3, 1}) || !slices.Equal(elements, []int{1, 2, 3, 4, 5, 6}) || !slices.Equal(b, []int{5, 6, 7}) {
		t.Error(x, elements, b)
	}
}

func checkMatrixErrors(t *testing.T, a [][]int, b []int, p int, rank, det, solve api.Errno) {
	t.Helper()
	n, e := modular.Rank(a, p)
	same(t, "Rank", e, rank)
	same(t, "Rank", n == 0 || rank == api.OK, true)
	n, e = modular.Det(a, p)
	same(t, "Det", e, det)
	same(t, "Det", n == 0 || det == api.OK, true)
	x, e := modular.Solve(a, b, p)
	same(t, "Solve", e, solve)
	same(t, "Solve", len(x) == 0 || solve == api.OK, true)
}

func TestP2_5Errors(t *testing.T) {
	ok, limit, shape, singular := api.OK, api.ErrLimit, api.ErrShape, api.ErrSingular
	a := [][]int{{1, 2}, {3, 4}}
	wide, long := [][]int{make([]int, api.MaxDim+1)}, make([][]int, api.MaxDim+1)
	square := make([][]int, api.MaxDim+1)
	for i := range square {
		long[i], square[i] = []int{i}, make([]int, api.MaxDim+1)
	}
	for _, c := range []struct {
		a                [][]int
		b                []int
		rank, det, solve api.Errno
	}{
		{nil, nil, shape, shape, shape},
		{[][]int{}, []int{1}, shape, shape, shape},
		{[][]int{nil}, []int{1}, shape, shape, shape},
		{[][]int{{}, {}}, []int{1, 2}, shape, shape, shape},
		{[][]int{{1}, {}}, []int{1, 2}, shape, shape, shape},
		{[][]int{{}, {1}}, []int{1, 2}, shape, shape, shape},
		{[][]int{{1, 2}, {3}}, []int{1, 2}, shape, shape, shape},
		{[][]int{{1}, {2, 3}}, []int{1, 2}, shape, shape, shape},
		{append(slices.Clone(long), []int{1, 2}), nil, shape, shape, shape},
		{[][]int{{1, 2}}, []int{1}, ok, shape, shape},
		{[][]int{{1}, {2}}, []int{1, 2}, ok, shape, shape},
		{wide, []int{1}, limit, shape, shape},
		{long, make([]int, len(long)), limit, shape, shape},
		{square, make([]int, len(square)), limit, limit, limit},
		{square, make([]int, api.MaxDim), limit, limit, shape},
		{square[:api.MaxDim], make([]int, api.MaxDim), limit, shape, shape},
		{wide, nil, limit, shape, shape},
		{a, nil, ok, ok, shape},
		{a, []int{1}, ok, ok, shape},
		{a, []int{1, 2, 3}, ok, ok, shape},
		{a, []int{1, 2}, ok, ok, ok},
		{[][]int{{1, 2}, {2, 4}}, []int{1, 2}, ok, ok, singular},
		{[][]int{{0}}, []int{0}, ok, ok, singular},
		{[][]int{{7}}, []int{1}, ok, ok, singular},
		{[][]int{{0, 0}, {0, 0}}, []int{0, 0}, ok, ok, singular},
		{[][]int{{0, 0}, {0, 0}}, []int{0}, ok, ok, shape},
	} {
		checkMatrixErrors(t, c.a, c.b, 7, c.rank, c.det, c.solve)
		for _, p := range notPrimes {
			checkMatrixErrors(t, c.a, c.b, p, api.ErrInvalid, api.ErrInvalid, api.ErrInvalid)
		}
	}
}

func TestP2_5LargestMatrices(t *testing.T) {
	wide, long := [][]int{make([]int, api.MaxDim)}, make([][]int, api.MaxDim)
	wide[0][api.MaxDim-1] = 1
	for i := range long {
		long[i] = []int{i}
	}
	checkRank(t, wide, 2, 1)
	checkRank(t, long, 2, 1)
}
