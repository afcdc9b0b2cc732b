package integer

import (
	"math/big"
	"testing"
)

func toBig(a natural) *big.Int {
	n := new(big.Int)
	for i := len(a) - 1; i >= 0; i-- {
		n.Lsh(n, 64)
		n.Or(n, new(big.Int).SetUint64(a[i]))
	}
	return n
}

// The factors of steps are short, so that GCD hardly ever meets a carry out of
// the lower word of a product. The multiples of a third of 2^64 lead to one.
func TestMinusProducts(t *testing.T) {
	const most = 1<<64 - 1
	words := []uint64{0, 1, most, most / 3, most/3 + 1, most / 3 * 2, most/3*2 + 1}
	factors := []uint64{0, 1, 2, 3, 6, 1<<32 - 1, most}
	for _, x := range factors {
		for _, y := range factors {
			for i := range len(words) * len(words) * len(words) {
				w := words[i%len(words)]
				v := words[i/len(words)%len(words)]
				u := words[i/len(words)/len(words)]
				// The last words make room for the difference and keep it positive.
				checkMinusProducts(t, natural{w, v, u, 1 << 40, 0}, x, natural{v, u, w}, y)
				checkMinusProducts(t, natural{v, most, w, 1 << 40, 0}, x, natural{u, v, most, 1}, y)
			}
		}
	}
}

func checkMinusProducts(t *testing.T, a natural, x uint64, b natural, y uint64) {
	t.Helper()
	left := new(big.Int).Mul(toBig(a), new(big.Int).SetUint64(x))
	right := new(big.Int).Mul(toBig(b), new(big.Int).SetUint64(y))
	want := left.Sub(left, right)
	if want.Sign() < 0 || want.BitLen() > wordBits*len(a) {
		return
	}
	if got := toBig(minusProducts(a, x, b, y)); got.Cmp(want) != 0 {
		t.Fatalf("%v * %d - %v * %d: %v, not %v", a, x, b, y, got, want)
	}
}
