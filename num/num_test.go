package num

import (
	"math/big"
	"slices"
	"testing"
)

const (
	greatest = 1<<63 - 1
	lowest   = -1 << 63
)

// edges answers numbers of all kinds: small ones, the ends, the powers of two, the roots of the ends, and the neighbours of all these.
func edges() []int64 {
	var l []int64
	for d := int64(-3); d <= 3; d++ {
		for shift := range 64 {
			l = append(l, 1<<shift+d, -1<<shift+d)
		}
		for _, mid := range []int64{0, 10, 100, 1000000, 3037000499, 2097151, 3074457345618258602, 4611686018427387904} {
			l = append(l, mid+d, -mid+d)
		}
	}
	l = append(l, lowest, lowest+1, lowest+2, greatest, greatest-1, greatest-2)
	slices.Sort(l)
	return slices.Compact(l)
}

// told answers what a call must: x as a number of 64 bits, or 0 and false.
func told(x *big.Int) (int64, bool) {
	if !x.IsInt64() {
		return 0, false
	}
	return x.Int64(), true
}

func check(t *testing.T, name string, got int64, ok bool, want int64, wantOK bool, args ...int64) {
	t.Helper()
	if got != want || ok != wantOK {
		t.Errorf("%s%v: %d, %v; want %d, %v", name, args, got, ok, want, wantOK)
	}
}

type pair struct {
	a, b, want int64
	ok         bool
}

func checkPairs(t *testing.T, name string, f func(a, b int64) (int64, bool), l []pair) {
	t.Helper()
	for _, c := range l {
		got, ok := f(c.a, c.b)
		check(t, name, got, ok, c.want, c.ok, c.a, c.b)
	}
}

// P1.1: sums.
func TestAdd(t *testing.T) {
	checkPairs(t, "Add", Add, []pair{
		{2, 3, 5, true}, {-2, 3, 1, true}, {-2, -3, -5, true}, {0, 0, 0, true}, {5, -5, 0, true},
		{greatest, 0, greatest, true}, {0, greatest, greatest, true}, {greatest - 1, 1, greatest, true}, {1, greatest - 1, greatest, true},
		{greatest, 1, 0, false}, {1, greatest, 0, false}, {greatest - 1, 2, 0, false}, {greatest, greatest, 0, false}, {1 << 62, 1 << 62, 0, false}, {1 << 62, 1<<62 - 1, greatest, true},
		{lowest, 0, lowest, true}, {0, lowest, lowest, true}, {lowest + 1, -1, lowest, true}, {-1 << 62, -1 << 62, lowest, true},
		{lowest, -1, 0, false}, {-1, lowest, 0, false}, {-1 << 62, -1<<62 - 1, 0, false}, {lowest, lowest, 0, false},
		{lowest, greatest, -1, true}, {greatest, lowest, -1, true},
	})
}

// P1.1: differences.
func TestSub(t *testing.T) {
	checkPairs(t, "Sub", Sub, []pair{
		{5, 3, 2, true}, {3, 5, -2, true}, {-3, -5, 2, true}, {0, 0, 0, true}, {7, 7, 0, true},
		{greatest, 0, greatest, true}, {0, greatest, -greatest, true}, {greatest, greatest, 0, true}, {greatest - 1, -1, greatest, true}, {greatest, 1, greatest - 1, true},
		{greatest, -1, 0, false}, {greatest, lowest, 0, false}, {0, lowest, 0, false}, {1, lowest, 0, false}, {-1, lowest, greatest, true},
		{lowest, 0, lowest, true}, {lowest, lowest, 0, true}, {lowest, -1, lowest + 1, true}, {lowest + 1, 1, lowest, true}, {-1, greatest, lowest, true},
		{lowest, 1, 0, false}, {-2, greatest, 0, false}, {lowest, greatest, 0, false},
	})
}

// P1.2: products.
func TestMul(t *testing.T) {
	checkPairs(t, "Mul", Mul, []pair{
		{7, 6, 42, true}, {7, -6, -42, true}, {-7, 6, -42, true}, {-7, -6, 42, true}, {0, 0, 0, true}, {0, -5, 0, true}, {-5, 0, 0, true},
		{0, lowest, 0, true}, {lowest, 0, 0, true}, {0, greatest, 0, true},
		{1, greatest, greatest, true}, {-1, greatest, -greatest, true}, {1, lowest, lowest, true}, {lowest, 1, lowest, true}, {-1, lowest, 0, false}, {lowest, -1, 0, false},
		{1 << 32, 1 << 31, 0, false}, {1 << 32, 1<<31 - 1, 1<<63 - 1<<32, true}, {-1 << 32, 1 << 31, lowest, true}, {1 << 32, -1 << 31, lowest, true}, {-1 << 32, -1 << 31, 0, false}, {-1 << 32, 1<<31 + 1, 0, false},
		{3037000499, 3037000499, 9223372030926249001, true}, {3037000500, 3037000500, 0, false}, {-3037000500, 3037000500, 0, false},
		{7, 1317624576693539401, greatest, true}, {7, 1317624576693539402, 0, false}, {-7, 1317624576693539401, -greatest, true}, {-7, 1317624576693539402, 0, false},
		{2, 1 << 62, 0, false}, {-2, 1 << 62, lowest, true}, {2, -1 << 62, lowest, true}, {-2, -1 << 62, 0, false},
		{greatest, greatest, 0, false}, {lowest, lowest, 0, false}, {greatest, lowest, 0, false}, {1 << 33, 1 << 33, 0, false}, {1 << 32, 1 << 32, 0, false}, {-1 << 32, 1 << 32, 0, false}, {1<<32 + 1, 1<<32 - 1, 0, false},
	})
}

// P1.3: ratios that are told, and those of which the product isn't.
func TestRatio(t *testing.T) {
	for _, c := range []struct {
		v, num, den, want int64
		ok                bool
	}{
		{1000000, 85, 100, 850000, true}, {1000000, 15, 100, 150000, true}, {7, 1, 2, 3, true}, {-7, 1, 2, -3, true}, {7, -1, 2, -3, true}, {-7, -1, 2, 3, true},
		{1, 1, 2, 0, true}, {-1, 1, 2, 0, true}, {0, 5, 3, 0, true}, {5, 0, 3, 0, true}, {6, 1, 3, 2, true}, {-6, 1, 3, -2, true},
		{greatest, 1, 1, greatest, true}, {lowest, 1, 1, lowest, true}, {lowest, 1, 2, -1 << 62, true}, {greatest, 1, greatest, 1, true}, {lowest, 1, greatest, -1, true}, {greatest - 1, 1, greatest, 0, true},
		// The product counts, not what it leaves once it is divided.
		{greatest, 2, 2, 0, false}, {lowest, -1, 1, 0, false}, {lowest, -1, 2, 0, false}, {-1, lowest, greatest, 0, false}, {1 << 62, 2, 4, 0, false}, {-1 << 62, 2, 4, -1 << 61, true}, {1 << 32, 1 << 32, greatest, 0, false},
	} {
		got, ok := Ratio(c.v, c.num, c.den)
		check(t, "Ratio", got, ok, c.want, c.ok, c.v, c.num, c.den)
	}
}

// P1.3: a den below 1 is refused, whatever v and num are.
func TestRatioOfDenBelowOne(t *testing.T) {
	for _, den := range []int64{0, -1, -2, -100, -1 << 32, lowest + 1, lowest} {
		for _, v := range edges() {
			for _, num := range []int64{0, 1, -1, 85, -85, 1 << 32, greatest, lowest} {
				got, ok := Ratio(v, num, den)
				check(t, "Ratio", got, ok, 0, false, v, num, den)
			}
		}
	}
}

// P1.1 to P1.3 against numbers of any size, and R1: none panics.
func TestAgainstBigNumbers(t *testing.T) {
	l := edges()
	for _, a := range l {
		for _, b := range l {
			x, y := big.NewInt(a), big.NewInt(b)
			got, ok := Add(a, b)
			want, wantOK := told(new(big.Int).Add(x, y))
			check(t, "Add", got, ok, want, wantOK, a, b)
			got, ok = Sub(a, b)
			want, wantOK = told(new(big.Int).Sub(x, y))
			check(t, "Sub", got, ok, want, wantOK, a, b)
			got, ok = Mul(a, b)
			want, wantOK = told(new(big.Int).Mul(x, y))
			check(t, "Mul", got, ok, want, wantOK, a, b)
		}
	}
}

// P1.3 against numbers of any size.
func TestRatioAgainstBigNumbers(t *testing.T) {
	for _, v := range edges() {
		for _, num := range []int64{0, 1, -1, 2, -2, 3, -3, 85, -85, 1 << 31, -1 << 31, 1<<32 + 1, greatest, lowest} {
			whole := new(big.Int).Mul(big.NewInt(v), big.NewInt(num))
			for _, den := range []int64{1, 2, 3, 7, 100, 1 << 32, 1 << 62, greatest - 1, greatest} {
				want, wantOK := int64(0), false
				if whole.IsInt64() {
					want, wantOK = told(new(big.Int).Quo(whole, big.NewInt(den)))
				}
				got, ok := Ratio(v, num, den)
				check(t, "Ratio", got, ok, want, wantOK, v, num, den)
			}
		}
	}
}

// P1.4: either order, and what Sub takes away Add gives back.
func TestOrderAndBack(t *testing.T) {
	l := edges()
	for _, a := range l {
		for _, b := range l {
			sum, ok := Add(a, b)
			other, otherOK := Add(b, a)
			check(t, "Add", other, otherOK, sum, ok, b, a)
			prod, ok := Mul(a, b)
			other, otherOK = Mul(b, a)
			check(t, "Mul", other, otherOK, prod, ok, b, a)
			if rest, ok := Sub(a, b); ok {
				back, backOK := Add(rest, b)
				check(t, "Add", back, backOK, a, true, rest, b)
			}
			if sum, ok := Add(a, b); ok {
				back, backOK := Sub(sum, b)
				check(t, "Sub", back, backOK, a, true, sum, b)
			}
		}
	}
}

// P1.5: the greater one stays the greater one.
func TestGreaterStaysGreater(t *testing.T) {
	l := edges()
	pairs := 0
	for _, c := range l {
		for i := 1; i < len(l); i++ {
			low, lowOK := Add(l[i-1], c)
			high, highOK := Add(l[i], c)
			if !lowOK || !highOK {
				continue
			}
			pairs++
			if low >= high {
				t.Errorf("%d < %d, but with %d: %d, %d", l[i-1], l[i], c, low, high)
			}
		}
	}
	if pairs == 0 {
		t.Error("no two sums were told")
	}
}

// R4: what is answered hangs on the arguments alone.
func TestSameAgain(t *testing.T) {
	l := edges()
	for _, a := range l {
		for _, b := range l {
			first, firstOK := Ratio(a, b, 3)
			again, againOK := Ratio(a, b, 3)
			check(t, "Ratio", again, againOK, first, firstOK, a, b, 3)
		}
	}
}
