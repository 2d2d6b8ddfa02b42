package num

import (
	"math"
	"math/big"
	"slices"
	"testing"

	"psaltery/api"
)

// The tests hold the layer against the library's long numbers, which have no bounds to go past.

// chance is a row of numbers that do not repeat soon.
type chance uint64

func (x *chance) next() uint64 {
	*x ^= *x << 13
	*x ^= *x >> 7
	*x ^= *x << 17
	return uint64(*x)
}

// anyLong is a number of any length, short ones as often as long ones.
func (x *chance) anyLong() uint64 {
	n := x.next() >> 8 % 65
	return x.next() >> n
}

func long(n uint64) *big.Int {
	return new(big.Int).SetUint64(n)
}

// unsignedEdges are the powers of two and the squares of what is near them, and their neighbours.
func unsignedEdges() []uint64 {
	out := []uint64{0, 1, 2, 3, math.MaxUint64}
	for k := range 64 {
		p := uint64(1) << k
		out = append(out, p-1, p, p+1, -p, 3*p, 5*p+1)
	}
	for k := range 32 {
		p := uint64(1) << k
		for _, r := range []uint64{p, p - 1, p + 1, p*2 - 1} {
			out = append(out, r*r-1, r*r, r*r+1, r*r+2*r)
		}
	}
	slices.Sort(out)
	return slices.Compact(out)
}

// signedEdges are the unsigned edges, taken as numbers with a sign.
func signedEdges() []int64 {
	var out []int64
	for _, n := range unsignedEdges() {
		out = append(out, int64(n))
	}
	slices.Sort(out)
	return out
}

// anyUnsigned are the edges and numbers by chance, beginning with a seed.
func anyUnsigned(x chance) []uint64 {
	out := unsignedEdges()
	for range 20000 {
		out = append(out, x.anyLong())
	}
	return out
}

// anySigned are the same with a sign, so many by chance.
func anySigned(x chance, n int) []int64 {
	out := signedEdges()
	for range n {
		out = append(out, int64(x.anyLong()))
	}
	return out
}

// P3.1: Sqrt.

func TestSqrtExamples(t *testing.T) {
	for n, want := range map[uint64]uint64{0: 0, 1: 1, 2: 1, 3: 1, 4: 2, 24: 4, 25: 5, 26: 5, 1<<62 - 1: 1<<31 - 1, 1 << 62: 1 << 31, 1 << 63: 3037000499, math.MaxUint64: 1<<32 - 1} {
		if r := Sqrt(n); r != want {
			t.Errorf("Sqrt(%d): %d, want %d", n, r, want)
		}
	}
}

func TestSqrtSmall(t *testing.T) {
	want := uint64(0)
	for n := range uint64(200000) {
		if (want+1)*(want+1) <= n {
			want++
		}
		if r := Sqrt(n); r != want {
			t.Fatalf("Sqrt(%d): %d, want %d", n, r, want)
		}
	}
}

func TestSqrtAny(t *testing.T) {
	for _, n := range anyUnsigned(0x9e3779b97f4a7c15) {
		if r, want := Sqrt(n), new(big.Int).Sqrt(long(n)).Uint64(); r != want {
			t.Fatalf("Sqrt(%d): %d, want %d", n, r, want)
		}
	}
}

// A square, and what is just below it: the root changes there, up to the greatest one.
func TestSqrtAtSquares(t *testing.T) {
	x := chance(0x2545f4914f6cdd1d)
	for _, top := range []uint64{1, 2, 3, 1 << 16, 1<<31 - 1, 1 << 31, 1<<32 - 2, 1<<32 - 1} {
		for range 200 {
			r := 1 + x.next()%top
			if got := Sqrt(r * r); got != r {
				t.Fatalf("Sqrt(%d): %d, want %d", r*r, got, r)
			}
			if got := Sqrt(r*r - 1); got != r-1 {
				t.Fatalf("Sqrt(%d): %d, want %d", r*r-1, got, r-1)
			}
		}
	}
}

// P3.1: Log2.

func TestLog2Examples(t *testing.T) {
	for n, want := range map[uint64]int{0: -1, 1: 0, 2: 1, 3: 1, 4: 2, 1023: 9, 1024: 10, 1025: 10, 1<<63 - 1: 62, 1 << 63: 63, math.MaxUint64: 63} {
		if k := Log2(n); k != want {
			t.Errorf("Log2(%d): %d, want %d", n, k, want)
		}
	}
}

func TestLog2Any(t *testing.T) {
	for _, n := range anyUnsigned(0xd1b54a32d192ed03) {
		want := -1
		for power := big.NewInt(1); power.Cmp(long(n)) <= 0; power.Add(power, power) {
			want++
		}
		if k := Log2(n); k != want {
			t.Fatalf("Log2(%d): %d, want %d", n, k, want)
		}
	}
}

// P3.2: Mul.

func wantProduct(t *testing.T, a, b uint64) {
	t.Helper()
	p := new(big.Int).Mul(long(a), long(b))
	low := new(big.Int).And(p, long(math.MaxUint64)).Uint64()
	high := new(big.Int).Rsh(p, 64).Uint64()
	if h, l := Mul(a, b); h != high || l != low {
		t.Fatalf("Mul(%d, %d): %d, %d, want %d, %d", a, b, h, l, high, low)
	}
}

func TestMulExamples(t *testing.T) {
	for _, c := range []struct{ a, b, high, low uint64 }{
		{0, 0, 0, 0},
		{0, math.MaxUint64, 0, 0},
		{1, math.MaxUint64, 0, math.MaxUint64},
		{3, 5, 0, 15},
		{1 << 63, 6, 3, 0},
		{6, 1 << 63, 3, 0},
		{1 << 32, 1 << 32, 1, 0},
		{1 << 32, 1<<32 - 1, 0, 1<<64 - 1<<32},
		{1 << 63, 1 << 63, 1 << 62, 0},
		{math.MaxUint64, math.MaxUint64, 1<<64 - 2, 1},
	} {
		if h, l := Mul(c.a, c.b); h != c.high || l != c.low {
			t.Errorf("Mul(%d, %d): %d, %d, want %d, %d", c.a, c.b, h, l, c.high, c.low)
		}
	}
}

func TestMulEdges(t *testing.T) {
	numbers := unsignedEdges()
	for _, a := range numbers {
		for _, b := range numbers {
			wantProduct(t, a, b)
		}
	}
}

func TestMulAny(t *testing.T) {
	x := chance(0xaf251af3b0f025b5)
	for range 50000 {
		wantProduct(t, x.anyLong(), x.anyLong())
	}
}

// P3.3: Div.

// modelDiv is the size of a and half of b, divided by b downwards, with the sign of a: all of it doubled, so that nothing is halved.
func modelDiv(a, b int64) int64 {
	size := new(big.Int).Abs(big.NewInt(a))
	size.Add(size.Lsh(size, 1), big.NewInt(b))
	size.Div(size, new(big.Int).Lsh(big.NewInt(b), 1))
	if a < 0 {
		size.Neg(size)
	}
	return size.Int64()
}

func mustDiv(t *testing.T, a, b int64) int64 {
	t.Helper()
	q, e := Div(a, b)
	if e != api.OK {
		t.Fatalf("Div(%d, %d): error %d", a, b, e)
	}
	return q
}

func TestDivExamples(t *testing.T) {
	for _, c := range []struct{ a, b, want int64 }{
		{5, 2, 3},
		{-5, 2, -3},
		{4, 3, 1},
		{-4, 3, -1},
		{5, 3, 2},
		{-5, 3, -2},
		{0, 7, 0},
		{1, 2, 1},
		{-1, 2, -1},
		{1, 3, 0},
		{-1, 3, 0},
		{math.MinInt64, 1, math.MinInt64},
		{math.MaxInt64, 1, math.MaxInt64},
		{math.MinInt64, 2, -1 << 62},
		{math.MaxInt64, 2, 1 << 62},
		{math.MinInt64, math.MaxInt64, -1},
		{math.MaxInt64, math.MaxInt64, 1},
		{1 << 62, math.MaxInt64, 1},
		{1<<62 - 1, math.MaxInt64, 0},
		{-1 << 62, math.MaxInt64, -1},
		{1 - 1<<62, math.MaxInt64, 0},
	} {
		if q := mustDiv(t, c.a, c.b); q != c.want {
			t.Errorf("Div(%d, %d): %d, want %d", c.a, c.b, q, c.want)
		}
	}
}

func TestDivSmall(t *testing.T) {
	for b := int64(1); b < 70; b++ {
		for a := int64(-300); a <= 300; a++ {
			if q, want := mustDiv(t, a, b), modelDiv(a, b); q != want {
				t.Fatalf("Div(%d, %d): %d, want %d", a, b, q, want)
			}
		}
	}
}

func TestDivEdges(t *testing.T) {
	numbers := signedEdges()
	for _, a := range numbers {
		for _, b := range numbers {
			if b < 1 {
				continue
			}
			if q, want := mustDiv(t, a, b), modelDiv(a, b); q != want {
				t.Fatalf("Div(%d, %d): %d, want %d", a, b, q, want)
			}
		}
	}
}

func TestDivAny(t *testing.T) {
	x := chance(0x6c62272e07bb0142)
	for range 50000 {
		a, b := int64(x.anyLong()), int64(x.anyLong()>>1|1)
		if q, want := mustDiv(t, a, b), modelDiv(a, b); q != want {
			t.Fatalf("Div(%d, %d): %d, want %d", a, b, q, want)
		}
	}
}

func TestDivWrong(t *testing.T) {
	numbers := signedEdges()
	for _, a := range numbers {
		for _, b := range numbers {
			if b >= 1 {
				continue
			}
			if q, e := Div(a, b); q != 0 || e != api.ErrArg {
				t.Fatalf("Div(%d, %d): %d, error %d", a, b, q, e)
			}
		}
	}
}

// P3.3: Shift.

func mustShift(t *testing.T, v int64, n int) int64 {
	t.Helper()
	s, e := Shift(v, n)
	if e != api.OK {
		t.Fatalf("Shift(%d, %d): error %d", v, n, e)
	}
	return s
}

func TestShiftExamples(t *testing.T) {
	for _, c := range []struct {
		v    int64
		n    int
		want int64
	}{
		{-5, 1, -3},
		{5, 1, 2},
		{-4, 1, -2},
		{4, 1, 2},
		{-1, 62, -1},
		{1, 62, 0},
		{0, 62, 0},
		{7, 0, 7},
		{-7, 0, -7},
		{math.MinInt64, 0, math.MinInt64},
		{math.MinInt64, 62, -2},
		{math.MaxInt64, 62, 1},
		{1 << 62, 62, 1},
		{1<<62 - 1, 62, 0},
		{-1 << 62, 62, -1},
		{-1<<62 - 1, 62, -2},
	} {
		if s := mustShift(t, c.v, c.n); s != c.want {
			t.Errorf("Shift(%d, %d): %d, want %d", c.v, c.n, s, c.want)
		}
	}
}

func TestShiftAny(t *testing.T) {
	numbers := anySigned(0x14057b7ef767814f, 2000)
	for n := range 63 {
		power := new(big.Int).Exp(big.NewInt(2), big.NewInt(int64(n)), nil)
		for _, v := range numbers {
			// The library's Div by a number above 0 leaves a rest that isn't below 0: it goes down.
			want := new(big.Int).Div(big.NewInt(v), power).Int64()
			if s := mustShift(t, v, n); s != want {
				t.Fatalf("Shift(%d, %d): %d, want %d", v, n, s, want)
			}
		}
	}
}

func TestShiftWrong(t *testing.T) {
	for _, n := range []int{-1, -2, -62, -63, -64, math.MinInt32, math.MinInt, 63, 64, 65, 127, 128, 1 << 8, 1 << 16, 1 << 32, math.MaxInt} {
		for _, v := range signedEdges() {
			if s, e := Shift(v, n); s != 0 || e != api.ErrArg {
				t.Fatalf("Shift(%d, %d): %d, error %d", v, n, s, e)
			}
		}
	}
}

// P3.4: Clamp.

func TestClampExamples(t *testing.T) {
	for _, c := range []struct{ v, low, high, want int64 }{
		{-1, 0, 5, 0},
		{0, 0, 5, 0},
		{3, 0, 5, 3},
		{5, 0, 5, 5},
		{6, 0, 5, 5},
		{-9, -7, -3, -7},
		{-2, -7, -3, -3},
		{4, 4, 4, 4},
		{math.MinInt64, math.MinInt64, math.MaxInt64, math.MinInt64},
		{math.MaxInt64, math.MinInt64, math.MaxInt64, math.MaxInt64},
		{math.MinInt64, math.MaxInt64, math.MaxInt64, math.MaxInt64},
		{math.MaxInt64, math.MinInt64, math.MinInt64, math.MinInt64},
	} {
		if r := Clamp(c.v, c.low, c.high); r != c.want {
			t.Errorf("Clamp(%d, %d, %d): %d, want %d", c.v, c.low, c.high, r, c.want)
		}
	}
}

// Bounds that are the wrong way round are asked in the same order: the lower one first.
func TestClampCrossed(t *testing.T) {
	for _, c := range []struct{ v, low, high, want int64 }{
		{3, 5, 1, 5},
		{0, 5, 1, 5},
		{5, 5, 1, 1},
		{6, 5, 1, 1},
		{0, math.MaxInt64, math.MinInt64, math.MaxInt64},
		{math.MaxInt64, math.MaxInt64, math.MinInt64, math.MinInt64},
	} {
		if r := Clamp(c.v, c.low, c.high); r != c.want {
			t.Errorf("Clamp(%d, %d, %d): %d, want %d", c.v, c.low, c.high, r, c.want)
		}
	}
}

func TestClampAll(t *testing.T) {
	numbers := []int64{math.MinInt64, math.MinInt64 + 1, -1 << 32, -2, -1, 0, 1, 2, 1 << 32, math.MaxInt64 - 1, math.MaxInt64}
	for _, low := range numbers {
		for _, high := range numbers {
			for _, v := range numbers {
				want := v
				switch {
				case big.NewInt(v).Cmp(big.NewInt(low)) < 0:
					want = low
				case big.NewInt(v).Cmp(big.NewInt(high)) > 0:
					want = high
				}
				if r := Clamp(v, low, high); r != want {
					t.Fatalf("Clamp(%d, %d, %d): %d, want %d", v, low, high, r, want)
				}
			}
		}
	}
}

// P3.5: what Div tells, times b, is not farther from a than b / 2.

func TestDivNear(t *testing.T) {
	numbers := anySigned(0xb5026f5aa96619e9, 200)
	for _, a := range numbers {
		for _, b := range numbers {
			if b < 1 {
				continue
			}
			q := mustDiv(t, a, b)
			far := new(big.Int).Mul(big.NewInt(q), big.NewInt(b))
			far.Abs(far.Sub(far, big.NewInt(a)))
			if far.Lsh(far, 1).Cmp(big.NewInt(b)) > 0 {
				t.Fatalf("Div(%d, %d): %d is too far off", a, b, q)
			}
		}
	}
}

// P3.6: of two numbers the greater one has no less root, logarithm, quotient.

func TestRootsAndLogarithmsRise(t *testing.T) {
	numbers := anyUnsigned(0x5851f42d4c957f2d)
	slices.Sort(numbers)
	for i := 1; i < len(numbers); i++ {
		low, high := numbers[i-1], numbers[i]
		if Sqrt(low) > Sqrt(high) {
			t.Fatalf("Sqrt(%d) is above Sqrt(%d)", low, high)
		}
		if Log2(low) > Log2(high) {
			t.Fatalf("Log2(%d) is above Log2(%d)", low, high)
		}
	}
}

func TestQuotientsRise(t *testing.T) {
	numbers := anySigned(0x27bb2ee687b0b0fd, 1000)
	slices.Sort(numbers)
	for _, b := range []int64{1, 2, 3, 4, 5, 7, 255, 256, 1<<32 - 1, 1 << 32, 1 << 62, math.MaxInt64 - 1, math.MaxInt64} {
		for i := 1; i < len(numbers); i++ {
			if mustDiv(t, numbers[i-1], b) > mustDiv(t, numbers[i], b) {
				t.Fatalf("Div(%d, %d) is above Div(%d, %d)", numbers[i-1], b, numbers[i], b)
			}
		}
	}
	for n := range 63 {
		for i := 1; i < len(numbers); i++ {
			if mustShift(t, numbers[i-1], n) > mustShift(t, numbers[i], n) {
				t.Fatalf("Shift(%d, %d) is above Shift(%d, %d)", numbers[i-1], n, numbers[i], n)
			}
		}
	}
}
