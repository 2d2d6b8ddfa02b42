package comb

import (
	"math"
	"math/big"
	"slices"
	"testing"

	"psaltery/api"
	"psaltery/coder"
)

// The tests hold the layer against two models: all vectors of few places and pulses, laid out in their order, and, for any others, counts by a sum of binomials.

// chance is a row of numbers that do not repeat soon.
type chance uint64

func (x *chance) next() uint64 {
	*x ^= *x << 13
	*x ^= *x >> 7
	*x ^= *x << 17
	return uint64(*x)
}

func (x *chance) below(n uint64) uint64 {
	return x.next() >> 3 % n
}

// kind is how many places and pulses vectors have.
type kind struct{ n, k int }

// kinds are all that may be.
func kinds() []kind {
	var out []kind
	for n := 1; n <= 16; n++ {
		for k := 0; k <= 12; k++ {
			out = append(out, kind{n, k})
		}
	}
	return out
}

// smallKinds are those of which there are few enough vectors to lay them all out.
func smallKinds() []kind {
	return slices.DeleteFunc(kinds(), func(c kind) bool { return modelCount(c) > 20000 })
}

// wrongKinds are those that may not be.
func wrongKinds() []kind {
	out := []kind{{0, 13}, {17, -1}, {-1, -1}, {17, 13}, {0, -1}, {math.MinInt, math.MinInt}, {math.MaxInt, math.MaxInt}, {-8, -6}}
	for _, n := range []int{0, -1, -2, -16, -17, 17, 18, 32, 256 + 4, 65536 + 4, 1<<32 + 4, -(1 << 32) + 4, math.MaxInt, math.MinInt} {
		for _, k := range []int{0, 1, 5, 12} {
			out = append(out, kind{n, k})
		}
	}
	for _, k := range []int{-1, -2, -12, -13, 13, 14, 16, 24, 256 + 2, 65536 + 2, 1<<32 + 2, -(1 << 32) + 2, math.MaxInt, math.MinInt} {
		for _, n := range []int{1, 2, 8, 16} {
			out = append(out, kind{n, k})
		}
	}
	return out
}

// modelCount says how many vectors there are: of the j places that are not 0, which ones, how their pulses part, and their signs.
func modelCount(c kind) uint64 {
	if c.k == 0 {
		return 1
	}
	sum := new(big.Int)
	for j := 1; j <= min(c.n, c.k); j++ {
		places := new(big.Int).Binomial(int64(c.n), int64(j))
		parts := new(big.Int).Binomial(int64(c.k-1), int64(j-1))
		sum.Add(sum, places.Mul(places, parts).Lsh(places, uint(j)))
	}
	return sum.Uint64()
}

// earlier are the integers of at most so many pulses, in the order of the row.
func earlier(k int) []int {
	out := []int{0}
	for s := 1; s <= k; s++ {
		out = append(out, s, -s)
	}
	return out
}

// rank is an integer's place in the row.
func rank(v int) int {
	if v > 0 {
		return 2*v - 1
	}
	return -2 * v
}

func away(v int) int {
	return max(v, -v)
}

// laidOut are all vectors, in their order.
func laidOut(c kind) [][]int {
	if c.n == 0 {
		if c.k == 0 {
			return [][]int{nil}
		}
		return nil
	}
	var out [][]int
	for _, v := range earlier(c.k) {
		for _, rest := range laidOut(kind{c.n - 1, c.k - away(v)}) {
			out = append(out, append([]int{v}, rest...))
		}
	}
	return out
}

// stands: does a stand ahead of b?
func stands(a, b []int) bool {
	return slices.CompareFunc(a, b, func(v, w int) int { return rank(v) - rank(w) }) < 0
}

func sum(y []int) int {
	all := 0
	for _, v := range y {
		all += away(v)
	}
	return all
}

// modelIndex counts the vectors that part from y at each place, ahead of it.
func modelIndex(y []int) uint64 {
	i, k := uint64(0), sum(y)
	for at, v := range y {
		for _, w := range earlier(k)[:rank(v)] {
			if n := len(y) - at - 1; n > 0 {
				i += modelCount(kind{n, k - away(w)})
			} else if k == away(w) {
				i++
			}
		}
		k -= away(v)
	}
	return i
}

// anyKind is one that may be.
func (x *chance) anyKind() kind {
	return kind{1 + int(x.below(16)), int(x.below(13))}
}

// anyVector strews pulses: on all places, or on few.
func (x *chance) anyVector(c kind) []int {
	y := make([]int, c.n)
	from := x.below(uint64(c.n))
	width := 1 + x.below(uint64(c.n)-from)
	for range c.k {
		y[from+x.below(width)]++
	}
	for at := range y {
		if x.next()>>9&1 == 1 {
			y[at] = -y[at]
		}
	}
	return y
}

// numbersOf are numbers of vectors: the first ones, the last ones, and some between.
func (x *chance) numbersOf(c kind) []uint64 {
	all := modelCount(c)
	out := []uint64{0, all - 1, all / 2}
	for d := uint64(1); d < min(all, 5); d++ {
		out = append(out, d, all-1-d)
	}
	for range 40 {
		out = append(out, x.below(all))
	}
	return out
}

func countIs(t *testing.T, c kind, want uint64) {
	t.Helper()
	if v, e := Count(c.n, c.k); v != want || e != api.OK {
		t.Errorf("%v: %d, error %d; want %d", c, v, e, want)
	}
}

func indexIs(t *testing.T, y []int, want uint64) {
	t.Helper()
	if i, e := Index(y); i != want || e != api.OK {
		t.Fatalf("%v: %d, error %d; want %d", y, i, e, want)
	}
}

func vectorIs(t *testing.T, c kind, i uint64, want []int) {
	t.Helper()
	if y, e := Vector(c.n, c.k, i); e != api.OK || !slices.Equal(y, want) {
		t.Fatalf("%v, %d: %v, error %d; want %v", c, i, y, e, want)
	}
}

func costIs(t *testing.T, c kind, want int) {
	t.Helper()
	if n, e := Cost(c.n, c.k); n != want || e != api.OK {
		t.Errorf("%v: %d, error %d; want %d", c, n, e, want)
	}
}

// P6.1: Count.

func TestCountExamples(t *testing.T) {
	countIs(t, kind{2, 1}, 4)
	countIs(t, kind{3, 2}, 18)
	countIs(t, kind{2, 12}, 48)
}

func TestCountEdges(t *testing.T) {
	for n := 1; n <= 16; n++ {
		countIs(t, kind{n, 0}, 1)
		countIs(t, kind{n, 1}, uint64(2*n))
		countIs(t, kind{n, 2}, uint64(2*n*n))
	}
	for k := 1; k <= 12; k++ {
		countIs(t, kind{1, k}, 2)
		countIs(t, kind{2, k}, uint64(4*k))
		countIs(t, kind{3, k}, uint64(4*k*k+2))
	}
	countIs(t, kind{16, 12}, 3575055360)
	if MaxPlaces != 16 {
		t.Errorf("MaxPlaces: %d", MaxPlaces)
	}
}

func TestCountAll(t *testing.T) {
	for _, c := range kinds() {
		countIs(t, c, modelCount(c))
	}
}

func TestCountIsOfAllThatAreLaidOut(t *testing.T) {
	for _, c := range smallKinds() {
		countIs(t, c, uint64(len(laidOut(c))))
	}
}

func TestCountWrong(t *testing.T) {
	for _, c := range wrongKinds() {
		if v, e := Count(c.n, c.k); v != 0 || e != api.ErrArg {
			t.Errorf("%v: %d, error %d", c, v, e)
		}
	}
}

// P6.2: Index and Vector.

func TestIndexAndVectorExamples(t *testing.T) {
	for i, y := range [][]int{{0, 1}, {0, -1}, {1, 0}, {-1, 0}} {
		vectorIs(t, kind{2, 1}, uint64(i), y)
		indexIs(t, y, uint64(i))
	}
	for i, y := range [][]int{{0, 2}, {0, -2}, {1, 1}, {1, -1}, {-1, 1}, {-1, -1}, {2, 0}, {-2, 0}} {
		vectorIs(t, kind{2, 2}, uint64(i), y)
		indexIs(t, y, uint64(i))
	}
}

func TestIndexAndVectorOfAllThatAreLaidOut(t *testing.T) {
	few := 0
	for _, c := range smallKinds() {
		for i, y := range laidOut(c) {
			vectorIs(t, c, uint64(i), y)
			indexIs(t, y, uint64(i))
		}
		few++
	}
	if few < 80 {
		t.Errorf("%d kinds are laid out", few)
	}
}

func TestIndexAny(t *testing.T) {
	x := chance(0x9e3779b97f4a7c15)
	for range 4000 {
		y := x.anyVector(x.anyKind())
		indexIs(t, y, modelIndex(y))
	}
}

// The first one has all its pulses at the last place, the last one all at the first place, below 0.
func TestFirstAndLast(t *testing.T) {
	for _, c := range kinds() {
		first, last := make([]int, c.n), make([]int, c.n)
		first[c.n-1], last[0] = c.k, -c.k
		vectorIs(t, c, 0, first)
		indexIs(t, first, 0)
		vectorIs(t, c, modelCount(c)-1, last)
		indexIs(t, last, modelCount(c)-1)
	}
}

func TestVectorAny(t *testing.T) {
	x := chance(0xd1342543de82ef95)
	for _, c := range kinds() {
		for _, i := range x.numbersOf(c) {
			y, e := Vector(c.n, c.k, i)
			if e != api.OK || len(y) != c.n || sum(y) != c.k || modelIndex(y) != i {
				t.Fatalf("%v, %d: %v, error %d", c, i, y, e)
			}
		}
	}
}

func TestIndexWrong(t *testing.T) {
	wrong := [][]int{
		nil, {}, make([]int, 17), make([]int, 18), make([]int, 100000), append(make([]int, 16), 1), append([]int{13}, make([]int, 16)...),
		{13}, {-13}, {12, 1}, {12, -1}, {-12, 1}, {-12, -1}, {0, 13}, {6, -7}, {7, 7, -7}, slices.Repeat([]int{1}, 13), slices.Repeat([]int{-1}, 16), append(slices.Repeat([]int{1}, 15), -3),
		{math.MaxInt}, {math.MinInt}, {math.MinInt + 1}, {math.MaxInt, math.MaxInt}, {math.MaxInt, math.MinInt}, {math.MaxInt, math.MinInt, 1}, {math.MaxInt, 1}, {math.MaxInt, -1}, {math.MaxInt, 5, math.MaxInt},
		{math.MinInt, math.MinInt}, {math.MinInt, 0}, {math.MinInt, 12}, {5, math.MinInt}, {1, math.MinInt, math.MinInt, 2}, {math.MinInt, math.MinInt, math.MinInt, math.MinInt},
		{1 << 62, 1 << 62, 1 << 62, 1 << 62}, {1 << 62, 1 << 62}, {-(1 << 62), -(1 << 62), -(1 << 62), -(1 << 62)}, slices.Repeat([]int{1 << 60}, 16), slices.Repeat([]int{-(1 << 60)}, 16), {1<<32 + 1}, {1 << 32}, {-(1 << 32)}, {256}, {65536}, {1 << 31, 1 << 31},
	}
	for _, y := range wrong {
		if i, e := Index(y); i != 0 || e != api.ErrArg {
			t.Errorf("%d places, %v..: %d, error %d", len(y), y[:min(len(y), 16)], i, e)
		}
	}
}

func TestIndexAtTheBounds(t *testing.T) {
	for _, y := range [][]int{{12}, {-12}, {0}, {6, -6}, make([]int, 16), slices.Repeat([]int{1}, 12), slices.Repeat([]int{-1}, 12), append(make([]int, 15), 12), append(make([]int, 15), -12), append(slices.Repeat([]int{-1}, 11), 0, 0, 0, 0, 1)} {
		indexIs(t, y, modelIndex(y))
	}
}

func TestVectorWrong(t *testing.T) {
	for _, c := range wrongKinds() {
		for _, i := range []uint64{0, 1, 1 << 32, math.MaxUint64} {
			if y, e := Vector(c.n, c.k, i); len(y) != 0 || e != api.ErrArg {
				t.Errorf("%v, %d: %v, error %d", c, i, y, e)
			}
		}
	}
}

func TestVectorNone(t *testing.T) {
	for _, c := range kinds() {
		all := modelCount(c)
		for _, i := range []uint64{all, all + 1, 2 * all, all + 1<<32, 1 << 34, 1 << 63, math.MaxUint64 - 1, math.MaxUint64} {
			if y, e := Vector(c.n, c.k, i); len(y) != 0 || e != api.ErrNone {
				t.Errorf("%v, %d: %v, error %d", c, i, y, e)
			}
		}
	}
}

// P6.3: Cost.

func TestCostExamples(t *testing.T) {
	costIs(t, kind{1, 0}, 0)
	costIs(t, kind{1, 3}, 1)
	costIs(t, kind{2, 1}, 2)
}

// modelCost is the chapter's words, one by one.
func modelCost(v uint64) int {
	if v >= 65536 {
		return modelCost(v/65536) + 16
	}
	e := 0
	for ; e < 17 && 1<<e <= v; e++ {
	}
	return e
}

func TestCostAll(t *testing.T) {
	long, exact := 0, 0
	for _, c := range kinds() {
		all := modelCount(c)
		costIs(t, c, modelCost(all-1))
		if all-1 >= 65536 {
			long++
		}
		if all&(all-1) == 0 {
			exact++
		}
	}
	if long < 50 || exact < 10 {
		t.Errorf("%d are of two halves, %d powers of two", long, exact)
	}
	costIs(t, kind{16, 12}, 32)
	costIs(t, kind{16, 0}, 0)
	costIs(t, kind{2, 8}, 5)
	costIs(t, kind{16, 1}, 5)
}

// What a number costs is what coder takes of it; there is none that coder doesn't take.
func TestCostIsWhatCoderTakes(t *testing.T) {
	const times = 100
	for _, c := range kinds() {
		all := modelCount(c)
		cost, _ := Cost(c.n, c.k)
		for _, i := range []uint64{0, all / 2, all - 1} {
			x, f := coder.New(), api.OK
			for range times {
				if x, f = coder.PutNum(x, i, all); f != api.OK {
					t.Fatalf("%v, %d: error %d", c, i, f)
				}
			}
			// coder may take one bit for each hundred choices, of which a number is two, and one.
			if has := 8 * len(x.Out); has > times*cost+3 {
				t.Errorf("%v, %d: %d bits for %d, where one costs %d", c, i, has, times, cost)
			}
		}
	}
}

func TestCostWrong(t *testing.T) {
	for _, c := range wrongKinds() {
		if n, e := Cost(c.n, c.k); n != 0 || e != api.ErrArg {
			t.Errorf("%v: %d, error %d", c, n, e)
		}
	}
}

// What follows.

// P6.4
func TestThereAndBack(t *testing.T) {
	x := chance(0x2545f4914f6cdd1d)
	for _, c := range kinds() {
		for _, i := range x.numbersOf(c) {
			y, e := Vector(c.n, c.k, i)
			if e != api.OK {
				t.Fatalf("%v, %d: error %d", c, i, e)
			}
			indexIs(t, y, i)
		}
		for range 40 {
			y := x.anyVector(c)
			i, e := Index(y)
			if e != api.OK {
				t.Fatalf("%v: error %d", y, e)
			}
			vectorIs(t, c, i, y)
		}
	}
}

// P6.5
func TestCountsAdd(t *testing.T) {
	of := func(n, k int) uint64 {
		v, e := Count(n, k)
		if e != api.OK {
			t.Fatalf("%d, %d: error %d", n, k, e)
		}
		return v
	}
	for n := 2; n <= 16; n++ {
		for k := 1; k <= 12; k++ {
			if of(n, k) != of(n-1, k)+of(n, k-1)+of(n-1, k-1) {
				t.Errorf("%d places, %d pulses: %d", n, k, of(n, k))
			}
		}
	}
}

// P6.6
func TestNumbersRise(t *testing.T) {
	x := chance(0x94d049bb133111eb)
	for _, c := range kinds() {
		for range 60 {
			a, b := x.anyVector(c), x.anyVector(c)
			i, e := Index(a)
			j, f := Index(b)
			if e != api.OK || f != api.OK || stands(a, b) != (i < j) || stands(b, a) != (j < i) {
				t.Fatalf("%v, %v: %d, %d, errors %d, %d", a, b, i, j, e, f)
			}
		}
		for _, i := range x.numbersOf(c) {
			if i+1 >= modelCount(c) {
				continue
			}
			a, e := Vector(c.n, c.k, i)
			b, f := Vector(c.n, c.k, i+1)
			if e != api.OK || f != api.OK || !stands(a, b) {
				t.Fatalf("%v, from %d on: %v, %v, errors %d, %d", c, i, a, b, e, f)
			}
		}
	}
}

// R3: what is handed in stays as it is, its spare room too, and what is answered is new memory.

func TestIndexLeavesVectors(t *testing.T) {
	x := chance(0x5851f42d4c957f2d)
	for range 500 {
		y := x.anyVector(x.anyKind())
		room := append(slices.Clone(y), 3, -3, 99)
		was := slices.Clone(room)
		i, e := Index(room[:len(y)])
		if i != modelIndex(y) || e != api.OK || !slices.Equal(room, was) {
			t.Fatalf("%v: %d, error %d, %v", y, i, e, room)
		}
	}
}

func TestVectorsAreNewMemory(t *testing.T) {
	x := chance(0xda942042e4dd58b5)
	for _, c := range kinds() {
		i := x.below(modelCount(c))
		a, _ := Vector(c.n, c.k, i)
		told := slices.Clone(a)
		b, _ := Vector(c.n, c.k, i)
		for at := range b[:cap(b)] {
			b[:cap(b)][at] = 77
		}
		if !slices.Equal(a, told) {
			t.Fatalf("%v, %d: memory is shared", c, i)
		}
		// R4: what was done with an answer is not to be seen in the next one.
		vectorIs(t, c, i, told)
	}
}
