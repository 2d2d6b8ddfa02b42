package pvq

import (
	"math"
	"math/big"
	"slices"
	"testing"

	"psaltery/api"
	"psaltery/comb"
)

// The tests hold the layer against a model that reckons each score anew, as the chapter's words say, with the library's long numbers and quotients, which neither round nor have bounds to go past.

// chance is a row of numbers that do not repeat soon.
type chance uint64

func (x *chance) next() uint64 {
	*x ^= *x << 13
	*x ^= *x >> 7
	*x ^= *x << 17
	return uint64(*x)
}

func (x *chance) below(n int) int {
	return int(x.next() >> 3 % uint64(n))
}

// anyCoef is a coefficient of at most so many bits, short ones as often as long ones.
func (x *chance) anyCoef(bits int) int64 {
	v := int64(x.next() >> 3 % (1<<(x.below(bits)+1) + 1))
	if x.below(2) == 1 {
		return -v
	}
	return v
}

// anyCoefs are coefficients of any kind: long and short ones, near ones, few that are not 0, many that are the same.
func (x *chance) anyCoefs() []int64 {
	c := make([]int64, 1+x.below(16))
	bits := 1 + x.below(20)
	one := x.anyCoef(bits)
	for i := range c {
		switch x.below(4) {
		case 0:
			c[i] = x.anyCoef(bits)
		case 1:
			c[i] = one
		case 2:
			c[i] = int64(x.below(1<<bits + 1))
		}
	}
	return c
}

// anyPulses strews k pulses: on all places, or on few.
func (x *chance) anyPulses(n, k int) []int {
	y := make([]int, n)
	from := x.below(n)
	width := 1 + x.below(n-from)
	for range k {
		y[from+x.below(width)]++
	}
	for i := range y {
		if x.below(2) == 1 {
			y[i] = -y[i]
		}
	}
	return y
}

// edges are the coefficients next to which something changes: noughts, bounds, the powers of two at which sizes are shifted.
func edges() []int64 {
	out := []int64{0, 1, 2, 3}
	for _, p := range []int64{1 << 17, 1 << 18, 1 << 19, 1 << 20} {
		out = append(out, p-2, p-1, p, p+1, p+2, p+p/2)
	}
	out = slices.DeleteFunc(out, func(v int64) bool { return v > 1<<20 })
	for _, v := range slices.Clone(out) {
		out = append(out, -v)
	}
	return out
}

// samples are coefficients of all kinds, beginning with a seed.
func samples(x chance, n int) [][]int64 {
	var out [][]int64
	e := edges()
	for _, v := range e {
		out = append(out, []int64{v}, slices.Repeat([]int64{v}, 16))
		for _, w := range e {
			out = append(out, []int64{v, w}, []int64{w / 3, v, w, v / 2, v - 1})
		}
	}
	for range n {
		out = append(out, x.anyCoefs())
	}
	return slices.DeleteFunc(out, func(c []int64) bool { return !modelRight(c) })
}

// wrongCoefs are none: too few, too many, or one that goes past a bound at any place.
func wrongCoefs() [][]int64 {
	out := [][]int64{nil, {}, make([]int64, 17), make([]int64, 18), make([]int64, 32), make([]int64, 256+4), make([]int64, 65536+4), append(make([]int64, 16), 1<<20+1)}
	for _, v := range []int64{1<<20 + 1, -(1 << 20) - 1, 1 << 21, -(1 << 21), 1<<32 + 1, 1 << 32, -(1 << 32), 1 << 62, -(1 << 62), math.MaxInt64, math.MinInt64, math.MinInt64 + 1} {
		for _, n := range []int{1, 2, 16} {
			for _, at := range []int{0, n / 2, n - 1} {
				c := slices.Repeat([]int64{5}, n)
				c[at] = v
				out = append(out, c)
			}
		}
	}
	return append(out, []int64{math.MaxInt64, math.MinInt64}, []int64{math.MinInt64, math.MinInt64}, []int64{1 << 62, 1 << 62, 1 << 62, 1 << 62}, slices.Repeat([]int64{1<<20 + 1}, 16))
}

// wrongPulses are counts that may not be.
func wrongPulses() []int {
	return []int{-1, -2, -12, -13, 13, 14, 16, 24, 256 + 2, 65536 + 2, 1<<32 + 2, -(1 << 32) + 2, math.MaxInt, math.MinInt}
}

func modelRight(c []int64) bool {
	bad := func(v int64) bool { return v < -1<<20 || v > 1<<20 }
	return len(c) >= 1 && len(c) <= 16 && !slices.ContainsFunc(c, bad)
}

func away[T int | int64](v T) T {
	return max(v, -v)
}

// modelSizes halves all sizes until none is too great.
func modelSizes(c []int64) []int64 {
	a := make([]int64, len(c))
	for i, v := range c {
		a[i] = away(v)
	}
	for slices.Max(a) >= 1<<18 {
		for i := range a {
			a[i] /= 2
		}
	}
	return a
}

// modelScore reckons a score from nothing but the sizes and the pulses.
func modelScore(a []int64, y []int, at int) *big.Rat {
	dot, norm := new(big.Int), new(big.Int)
	for i := range a {
		v := int64(y[i])
		dot.Add(dot, new(big.Int).Mul(big.NewInt(a[i]), big.NewInt(v)))
		norm.Add(norm, big.NewInt(v*v))
	}
	dot.Add(dot, big.NewInt(a[at]))
	norm.Add(norm, big.NewInt(int64(2*y[at]+1)))
	return new(big.Rat).SetFrac(dot.Mul(dot, dot), norm)
}

// modelSearch answers the pulse vector, and whether two scores were the same on the way.
func modelSearch(c []int64, k int) ([]int, bool) {
	a, y, same := modelSizes(c), make([]int, len(c)), false
	for range k {
		var scores []*big.Rat
		for i := range c {
			s := modelScore(a, y, i)
			same = same || slices.ContainsFunc(scores, func(t *big.Rat) bool { return t.Cmp(s) == 0 })
			scores = append(scores, s)
		}
		best := slices.MaxFunc(scores, (*big.Rat).Cmp)
		y[slices.Index(scores, best)]++
	}
	for i, v := range c {
		if v < 0 {
			y[i] = -y[i]
		}
	}
	return y, same
}

// modelShape is the chapter's words, one by one, with long numbers.
func modelShape(y []int, r int64) []int64 {
	sum := int64(0)
	for _, v := range y {
		sum += int64(v * v)
	}
	out := make([]int64, len(y))
	s := new(big.Int).Sqrt(big.NewInt(65536 * sum))
	for i, v := range y {
		if sum == 0 {
			continue
		}
		p := new(big.Int).Mul(big.NewInt(int64(away(v))), big.NewInt(r*256))
		// To the nearest, halves upwards: the double and s, divided by the double of s.
		p.Lsh(p, 1).Add(p, s)
		out[i] = p.Div(p, new(big.Int).Lsh(s, 1)).Int64()
		if v < 0 {
			out[i] = -out[i]
		}
	}
	return out
}

func pulses(y []int) int {
	all := 0
	for _, v := range y {
		all += away(v)
	}
	return all
}

func squareIs(t *testing.T, c []int64, want uint64) {
	t.Helper()
	if s, e := Square(c); s != want || e != api.OK {
		t.Fatalf("%v: %d, error %d; want %d", c, s, e, want)
	}
}

func searchIs(t *testing.T, c []int64, k int, want []int) {
	t.Helper()
	if y, e := Search(c, k); e != api.OK || !slices.Equal(y, want) {
		t.Fatalf("%v, %d: %v, error %d; want %v", c, k, y, e, want)
	}
}

func shapeIs(t *testing.T, y []int, r int64, want []int64) {
	t.Helper()
	if c, e := Shape(y, r); e != api.OK || !slices.Equal(c, want) {
		t.Fatalf("%v, %d: %v, error %d; want %v", y, r, c, e, want)
	}
}

// P7.1: Square.

func TestSquareExample(t *testing.T) {
	squareIs(t, []int64{3, -4}, 25)
}

func TestSquareEdges(t *testing.T) {
	squareIs(t, []int64{0}, 0)
	squareIs(t, []int64{-1}, 1)
	squareIs(t, make([]int64, 16), 0)
	squareIs(t, []int64{1 << 20}, 1<<40)
	squareIs(t, []int64{-(1 << 20)}, 1<<40)
	squareIs(t, slices.Repeat([]int64{1 << 20}, 16), 1<<44)
	squareIs(t, slices.Repeat([]int64{-(1 << 20)}, 16), 1<<44)
	squareIs(t, append(make([]int64, 15), -7), 49)
}

func TestSquareAny(t *testing.T) {
	for _, c := range samples(0x9e3779b97f4a7c15, 3000) {
		sum := new(big.Int)
		for _, v := range c {
			sum.Add(sum, new(big.Int).Mul(big.NewInt(v), big.NewInt(v)))
		}
		squareIs(t, c, sum.Uint64())
	}
}

func TestSquareWrong(t *testing.T) {
	for _, c := range wrongCoefs() {
		if s, e := Square(c); s != 0 || e != api.ErrArg {
			t.Errorf("%d numbers, %v..: %d, error %d", len(c), c[:min(len(c), 16)], s, e)
		}
	}
}

// P7.1: Search.

func TestSearchExamples(t *testing.T) {
	searchIs(t, []int64{10, -1}, 3, []int{3, 0})
	searchIs(t, []int64{5, 5}, 2, []int{1, 1})
	searchIs(t, []int64{0, 0}, 1, []int{1, 0})
	searchIs(t, []int64{-7}, 2, []int{-2})
}

func TestSearchEdges(t *testing.T) {
	searchIs(t, []int64{9}, 0, []int{0})
	searchIs(t, []int64{-9}, 12, []int{-12})
	searchIs(t, make([]int64, 16), 0, make([]int, 16))
	searchIs(t, slices.Repeat([]int64{-(1 << 20)}, 16), 0, make([]int, 16))
	searchIs(t, slices.Repeat([]int64{1 << 20}, 16), 12, append(slices.Repeat([]int{1}, 12), 0, 0, 0, 0))
	searchIs(t, slices.Repeat([]int64{-(1 << 20)}, 16), 12, append(slices.Repeat([]int{-1}, 12), 0, 0, 0, 0))
	searchIs(t, slices.Repeat([]int64{-3}, 4), 12, []int{-3, -3, -3, -3})
}

// Without a coefficient that is not 0 all scores are 0, with unlike norms, and the first place has all pulses.
func TestSearchOfNoughts(t *testing.T) {
	for n := 1; n <= 16; n++ {
		for k := 0; k <= 12; k++ {
			want := make([]int, n)
			want[0] = k
			searchIs(t, make([]int64, n), k, want)
		}
	}
}

func TestSearchAny(t *testing.T) {
	for i, c := range samples(0xd1342543de82ef95, 2000) {
		k := i * 5 % 13
		want, _ := modelSearch(c, k)
		searchIs(t, c, k, want)
	}
}

// All coefficients of few bits: many scores are the same.
func TestSearchSmall(t *testing.T) {
	for i := range 7 * 7 * 7 * 7 {
		c := []int64{int64(i%7) - 1, int64(i / 7 % 7), -int64(i / 49 % 7), int64(i / 343)}
		for _, k := range []int{1, 3, 12} {
			want, _ := modelSearch(c, k)
			searchIs(t, c, k, want)
		}
	}
}

// Sizes are shifted by as few bits as must be, all alike: one bit more or less is to be seen.
func TestSearchShifts(t *testing.T) {
	shifted := func(c []int64, more int) []int64 {
		var out []int64
		for _, v := range c {
			out = append(out, v>>more)
		}
		return out
	}
	x := chance(0x2545f4914f6cdd1d)
	fewer, more := 0, 0
	for range 3000 {
		// Two that are near each other, so that the lowest bits say which one is the greater one.
		top := int64(1)<<(17+x.below(3)) + int64(x.below(1<<17))
		c := []int64{top - int64(x.below(4)), top, top - int64(x.below(8))}
		k := 1 + x.below(3)
		want, _ := modelSearch(c, k)
		searchIs(t, c, k, want)
		a := modelSizes(c)
		if short, _ := modelSearch(shifted(a, 1), k); !slices.Equal(short, want) {
			more++
		}
		if a[1] < c[1] {
			if long := unshifted(c, k); !slices.Equal(long, want) {
				fewer++
			}
		}
	}
	if fewer < 100 || more < 100 {
		t.Errorf("%d are otherwise without a shift, %d with one bit more", fewer, more)
	}
	searchIs(t, []int64{1<<18 - 2, 1<<18 - 1}, 1, []int{0, 1})
	searchIs(t, []int64{1 << 18, 1<<18 + 1}, 1, []int{1, 0})
	searchIs(t, []int64{1 << 18, 1<<18 + 2}, 1, []int{0, 1})
	searchIs(t, []int64{1<<20 - 4, 1<<20 - 1}, 1, []int{1, 0})
	searchIs(t, []int64{1<<20 - 5, 1<<20 - 1}, 1, []int{0, 1})
	searchIs(t, []int64{1<<20 - 8, 1 << 20}, 1, []int{0, 1})
	searchIs(t, []int64{1<<20 - 1, -(1 << 20)}, 1, []int{0, -1})
}

// unshifted is what would be found with the sizes as they are.
func unshifted(c []int64, k int) []int {
	y := make([]int, len(c))
	for range k {
		best := 0
		for i := range c {
			if modelScore(c, y, i).Cmp(modelScore(c, y, best)) > 0 {
				best = i
			}
		}
		y[best]++
	}
	return y
}

func TestSearchWrong(t *testing.T) {
	fails := func(c []int64, k int) {
		t.Helper()
		if y, e := Search(c, k); len(y) != 0 || e != api.ErrArg {
			t.Errorf("%d numbers, %v.., %d: %v, error %d", len(c), c[:min(len(c), 16)], k, y, e)
		}
	}
	for _, c := range wrongCoefs() {
		for _, k := range []int{0, 1, 12, 13, -1} {
			fails(c, k)
		}
	}
	for _, k := range wrongPulses() {
		for _, c := range [][]int64{{0}, {5}, {1, -2, 3}, make([]int64, 16), slices.Repeat([]int64{-(1 << 20)}, 16)} {
			fails(c, k)
		}
	}
}

// P7.2: Shape.

func TestShapeExamples(t *testing.T) {
	shapeIs(t, []int{1, 1}, 100, []int64{71, 71})
	shapeIs(t, []int{0, -2}, 7, []int64{0, -7})
}

func TestShapeEdges(t *testing.T) {
	shapeIs(t, []int{1}, 0, []int64{0})
	shapeIs(t, []int{-12}, 0, []int64{0})
	shapeIs(t, []int{1}, 1<<22, []int64{1 << 22})
	shapeIs(t, []int{-12}, 1<<22, []int64{-(1 << 22)})
	shapeIs(t, []int{1, -1}, 1, []int64{1, -1})
	shapeIs(t, []int{0, 12, 0}, 5, []int64{0, 5, 0})
	shapeIs(t, append(make([]int, 15), -12), 1<<22, append(make([]int64, 15), -(1<<22)))
	// The root of 65536 times 5 is 572, rounded down from 572.4.
	shapeIs(t, []int{1, 2}, 1<<22, []int64{1877171, 3754342})
	shapeIs(t, []int{1, 1, 1, 1}, 1, []int64{1, 1, 1, 1})
	shapeIs(t, []int{-1, 1, -1, 1}, 3, []int64{-2, 2, -2, 2})
}

func TestShapeOfNoughts(t *testing.T) {
	for n := 1; n <= 16; n++ {
		for _, r := range []int64{0, 1, 1000, 1 << 22} {
			shapeIs(t, make([]int, n), r, make([]int64, n))
		}
	}
}

// radii are the bounds, what is near them, and some between.
func (x *chance) radii() []int64 {
	out := []int64{0, 1, 2, 3, 127, 128, 255, 256, 257, 65535, 65536, 1<<21 - 1, 1 << 21, 1<<22 - 1, 1 << 22}
	for range 8 {
		out = append(out, int64(x.next()>>3%(1<<(x.below(22)+1)+1)))
	}
	return out
}

func TestShapeAny(t *testing.T) {
	x := chance(0x94d049bb133111eb)
	for n := 1; n <= 16; n++ {
		for k := 0; k <= 12; k++ {
			for _, r := range x.radii() {
				y := x.anyPulses(n, k)
				shapeIs(t, y, r, modelShape(y, r))
			}
		}
	}
}

func TestShapeWrong(t *testing.T) {
	fails := func(y []int, r int64) {
		t.Helper()
		if c, e := Shape(y, r); len(c) != 0 || e != api.ErrArg {
			t.Errorf("%d places, %v.., %d: %v, error %d", len(y), y[:min(len(y), 16)], r, c, e)
		}
	}
	wrong := [][]int{
		nil, {}, make([]int, 17), make([]int, 18), make([]int, 32), make([]int, 65536+1), append(make([]int, 16), 1),
		{13}, {-13}, {7, 6}, {12, 1}, {12, -1}, {-12, 1}, {-12, -1}, {6, -7}, slices.Repeat([]int{1}, 13), slices.Repeat([]int{-1}, 16),
		{math.MaxInt}, {math.MinInt}, {math.MinInt, 0}, {math.MinInt, math.MinInt}, {math.MaxInt, math.MaxInt, 2}, {math.MaxInt, math.MinInt, 1}, {1 << 62, 1 << 62, 1 << 62, 1 << 62}, {1 << 32}, {-(1 << 32)}, {1<<32 + 1}, {256}, {65536}, slices.Repeat([]int{1 << 60}, 16),
	}
	for _, y := range wrong {
		for _, r := range []int64{0, 1, 100, 1 << 22, -1} {
			fails(y, r)
		}
	}
	for _, r := range []int64{-1, -2, -100, 1<<22 + 1, 1<<22 + 2, 1 << 23, 1 << 32, 1<<32 + 5, -(1 << 32) + 5, math.MaxInt64, math.MinInt64} {
		for _, y := range [][]int{{0}, {1}, {-12}, {1, 1}, make([]int, 16), slices.Repeat([]int{-1}, 12)} {
			fails(y, r)
		}
	}
}

// What follows.

// P7.3
func TestFoundPulsesDoNotOppose(t *testing.T) {
	for i, c := range samples(0x5851f42d4c957f2d, 3000) {
		k := i * 7 % 13
		y, e := Search(c, k)
		if e != api.OK || len(y) != len(c) || pulses(y) != k {
			t.Fatalf("%v, %d: %v, error %d", c, k, y, e)
		}
		for at, v := range y {
			if v < 0 && c[at] >= 0 || v > 0 && c[at] < 0 {
				t.Fatalf("%v, %d: %v opposes it at %d", c, k, y, at)
			}
		}
	}
}

// P7.3
func TestTurnedSignsTurnPulses(t *testing.T) {
	x := chance(0xda942042e4dd58b5)
	for i, c := range samples(0x6c62272e07bb0142, 2000) {
		k := i * 7 % 13
		y, e := Search(c, k)
		if e != api.OK {
			t.Fatalf("%v, %d: error %d", c, k, e)
		}
		turned, want := slices.Clone(c), slices.Clone(y)
		for at := range c {
			if c[at] != 0 && x.below(2) == 1 {
				turned[at], want[at] = -c[at], -y[at]
			}
		}
		searchIs(t, turned, k, want)
	}
}

// What is found is a pulse vector of comb's, and has a shape.
func TestFoundHasNumberAndShape(t *testing.T) {
	for i, c := range samples(0x41c64e6da3bc0074, 500) {
		y, _ := Search(c, i%13)
		if _, e := comb.Index(y); e != api.OK {
			t.Fatalf("%v: %v has no number, error %d", c, y, e)
		}
		if z, e := Shape(y, 1000); e != api.OK || len(z) != len(c) {
			t.Fatalf("%v: %v has the shape %v, error %d", c, y, z, e)
		}
	}
}

// P7.4
func TestShapesHaveTheirRadius(t *testing.T) {
	x := chance(0x9fb21c651e98df25)
	for n := 1; n <= 16; n++ {
		for k := 1; k <= 12; k++ {
			for _, r := range x.radii() {
				y := x.anyPulses(n, k)
				c, e := Shape(y, r)
				sum := 0.0
				for _, v := range c {
					sum += float64(v) * float64(v)
				}
				if off := math.Abs(math.Sqrt(sum) - float64(r)); e != api.OK || off > float64(r)/255+3+1e-6 {
					t.Fatalf("%v, %d: %v, off by %g, error %d", y, r, c, off, e)
				}
			}
		}
	}
}

// P7.5
func TestPulsesGoWithTheirPlaces(t *testing.T) {
	x := chance(0xc2b2ae3d27d4eb4f)
	held := 0
	for range 3000 {
		c := x.anyCoefs()
		if x.below(2) == 1 {
			for i := range c {
				c[i] = x.anyCoef(20)
			}
		}
		k := x.below(13)
		y, same := modelSearch(c, k)
		if same {
			continue
		}
		held++
		for i := range c {
			j := i + x.below(len(c)-i)
			c[i], c[j] = c[j], c[i]
			y[i], y[j] = y[j], y[i]
		}
		searchIs(t, c, k, y)
	}
	if held < 300 {
		t.Errorf("%d are without scores that are the same", held)
	}
}

// P7.5
func TestOneCoefficientHasAllPulses(t *testing.T) {
	for _, v := range edges() {
		if v == 0 {
			continue
		}
		for n := 1; n <= 16; n++ {
			for at := range n {
				c, want := make([]int64, n), make([]int, n)
				k := (n*5 + at) % 13
				c[at], want[at] = v, k
				if v < 0 {
					want[at] = -k
				}
				searchIs(t, c, k, want)
			}
		}
	}
}

// R3: what is handed in stays as it is, its spare room too, and what is answered is new memory. R4: what was done with an answer is not to be seen in the next one.

func TestCoefficientsStay(t *testing.T) {
	x := chance(0x27d4eb2f165667c5)
	for range 500 {
		c := x.anyCoefs()
		room := append(slices.Clone(c), 3, -3, 1<<40)
		was := slices.Clone(room)
		_, e := Square(room[:len(c)])
		_, f := Search(room[:len(c)], x.below(13))
		if e != api.OK || f != api.OK || !slices.Equal(room, was) {
			t.Fatalf("%v: errors %d, %d, %v", c, e, f, room)
		}
	}
}

func TestPulseVectorsStay(t *testing.T) {
	x := chance(0x165667b19e3779f9)
	for range 500 {
		y := x.anyPulses(1+x.below(16), x.below(13))
		room := append(slices.Clone(y), 3, -3, 99)
		was := slices.Clone(room)
		if _, e := Shape(room[:len(y)], 1000); e != api.OK || !slices.Equal(room, was) {
			t.Fatalf("%v: error %d, %v", y, e, room)
		}
	}
}

// spoil writes over a list and its spare room.
func spoil[T int | int64](list []T) {
	for i := range list[:cap(list)] {
		list[:cap(list)][i] = 77
	}
}

func TestAnswersAreNewMemory(t *testing.T) {
	x := chance(0x85ebca77c2b2ae63)
	for range 300 {
		c, k := x.anyCoefs(), x.below(13)
		y, _ := Search(c, k)
		told := slices.Clone(y)
		z, _ := Shape(y, 5000)
		shape := slices.Clone(z)
		again, _ := Search(c, k)
		spoil(again)
		other, _ := Shape(y, 5000)
		spoil(other)
		if !slices.Equal(y, told) || !slices.Equal(z, shape) {
			t.Fatalf("%v, %d: memory is shared", c, k)
		}
		searchIs(t, c, k, told)
		shapeIs(t, told, 5000, shape)
	}
}
