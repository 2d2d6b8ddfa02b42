package band

import (
	"math"
	"math/big"
	"slices"
	"testing"

	"psaltery/api"
)

// The tests hold the layer against a model with the bands in a table and the library's long numbers, and against cases reckoned by hand.

// chance is a row of numbers that do not repeat soon.
type chance uint64

func (x *chance) next() uint64 {
	*x ^= *x << 13
	*x ^= *x >> 7
	*x ^= *x << 17
	return uint64(*x)
}

func (x *chance) below(n int) int {
	return int(x.next() >> 3 % uint64(n))
}

// anyCoef is a coefficient of at most so many bits, short ones as often as long ones.
func (x *chance) anyCoef(bits int) int64 {
	v := int64(x.next() >> 3 % (1<<(x.below(bits)+1) + 1))
	if x.below(2) == 1 {
		return -v
	}
	return v
}

// anyCoefs are so many coefficients of any kind: long and short ones, few that are not 0, many that are the same.
func (x *chance) anyCoefs(count int) []int64 {
	c := make([]int64, count)
	bits := 1 + x.below(20)
	one := x.anyCoef(bits)
	for i := range c {
		switch x.below(4) {
		case 0, 1:
			c[i] = x.anyCoef(bits)
		case 2:
			c[i] = one
		}
	}
	return c
}

// edges are the coefficients next to which something changes: noughts, bounds, powers of two, and their roots.
func edges() []int64 {
	out := []int64{0}
	for p := range 41 {
		root := new(big.Int).Sqrt(new(big.Int).Lsh(big.NewInt(1), uint(p))).Int64()
		out = append(out, root-1, root, root+1)
	}
	out = slices.DeleteFunc(out, func(v int64) bool { return v > 1<<20 })
	for _, v := range slices.Clone(out) {
		out = append(out, -v)
	}
	return out
}

// someBands are coefficients such as Gain takes, with edges alone and among others.
func someBands(x chance, n int) [][]int64 {
	var out [][]int64
	for _, v := range edges() {
		for count := 1; count <= 8; count++ {
			out = append(out, slices.Repeat([]int64{v}, count))
			c := make([]int64, count)
			c[x.below(count)] = v
			out = append(out, c)
		}
		for _, w := range edges() {
			out = append(out, []int64{v, w})
		}
	}
	for range n {
		out = append(out, x.anyCoefs(1+x.below(8)))
	}
	return out
}

// someFrames are frames of all kinds, with edges at all places.
func someFrames(x chance, n int) [][]int64 {
	out := [][]int64{make([]int64, 16), countTo16()}
	for _, v := range edges() {
		out = append(out, slices.Repeat([]int64{v}, 16))
		for at := range 16 {
			c := make([]int64, 16)
			c[at] = v
			out = append(out, c)
		}
	}
	for range n {
		out = append(out, x.anyCoefs(16))
	}
	return out
}

func countTo16() []int64 {
	return []int64{1, 2, 3, 4, 5, 6, 7, 8, 9, 10, 11, 12, 13, 14, 15, 16}
}

// beyond are numbers that are no coefficients.
func beyond() []int64 {
	return []int64{1<<20 + 1, -(1 << 20) - 1, 1 << 21, -(1 << 21), 1 << 32, -(1 << 32), 1<<32 + 1, 1 << 62, -(1 << 62), math.MaxInt64, math.MinInt64 + 1, math.MinInt64}
}

// notBands are numbers of no band: also such as a narrower integer, or a shift's count, would take for one.
func notBands() []int {
	return []int{-1, -2, -3, -4, -5, -8, -64, 5, 6, 7, 8, 16, 63, 64, 65, 66, 128, 256, 256 + 3, 65536 + 3, 1 << 32, 1<<32 + 3, -(1 << 32) + 3, 1 << 62, math.MaxInt, math.MinInt, math.MinInt + 3}
}

// wrongLengths are how many coefficients there may not be, but for the lengths that may be.
func wrongLengths(right ...int) []int {
	all := []int{31, 32, 64, 255, 256, 256 + 1, 256 + 8, 256 + 16, 4000, 65536, 65536 + 1, 65536 + 8, 65536 + 16}
	for n := range 26 {
		all = append(all, n)
	}
	return slices.DeleteFunc(all, func(n int) bool { return slices.Contains(right, n) })
}

// modelFrom and modelTo say where bands begin and end.
var (
	modelFrom = [5]int{0, 1, 2, 4, 8}
	modelTo   = [5]int{1, 2, 4, 8, 16}
)

func modelSquare(x []int64) *big.Int {
	sum := new(big.Int)
	for _, v := range x {
		sum.Add(sum, new(big.Int).Mul(big.NewInt(v), big.NewInt(v)))
	}
	return sum
}

// modelGain halves the norm's square until there is nothing left.
func modelGain(x []int64) int {
	gain := 0
	for s := modelSquare(x); s.Sign() > 0; s.Rsh(s, 1) {
		gain++
	}
	return gain
}

func modelValue(g int) int64 {
	if g == 0 {
		return 0
	}
	power := new(big.Int).Exp(big.NewInt(2), big.NewInt(int64(g-1)), nil)
	return power.Sqrt(power).Int64()
}

func gainIs(t *testing.T, x []int64, want int) {
	t.Helper()
	if g, e := Gain(x); g != want || e != api.OK {
		t.Fatalf("%v: %d, error %d; want %d", x, g, e, want)
	}
}

func gainsAre(t *testing.T, c []int64, want []int) {
	t.Helper()
	if g, e := Gains(c); e != api.OK || !slices.Equal(g, want) {
		t.Fatalf("%v: %v, error %d; want %v", c, g, e, want)
	}
}

func sameBands(a, b [][]int64) bool {
	return slices.EqualFunc(a, b, slices.Equal[[]int64])
}

func splitIs(t *testing.T, c []int64, want [][]int64) {
	t.Helper()
	if l, e := Split(c); e != api.OK || !sameBands(l, want) {
		t.Fatalf("%v: %v, error %d; want %v", c, l, e, want)
	}
}

// P10.1: From and Width.

func TestFromAndWidth(t *testing.T) {
	if From(3) != 4 || Width(3) != 4 {
		t.Errorf("the example: %d, %d", From(3), Width(3))
	}
	for b, from := range modelFrom {
		if From(b) != from || Width(b) != modelTo[b]-from {
			t.Errorf("band %d: begins at %d, has %d", b, From(b), Width(b))
		}
	}
}

func TestNoBand(t *testing.T) {
	for _, b := range notBands() {
		if From(b) != 0 || Width(b) != 0 {
			t.Errorf("%d is no band: begins at %d, has %d", b, From(b), Width(b))
		}
	}
	for b := 5; b < 1000; b++ {
		if From(b) != 0 || Width(b) != 0 || From(-b) != 0 || Width(-b) != 0 {
			t.Errorf("%d or its opposite: begins at %d, %d, has %d, %d", b, From(b), From(-b), Width(b), Width(-b))
		}
	}
}

// P10.1: Value.

func TestValueByHand(t *testing.T) {
	for g, want := range []int64{0, 1, 1, 2, 2, 4, 5, 8, 11, 16, 22, 32, 45} {
		if v := Value(g); v != want {
			t.Errorf("%d: %d; want %d", g, v, want)
		}
	}
	for g, want := range map[int]int64{41: 1 << 20, 42: 1482910, 43: 1 << 21, 44: 2965820} {
		if v := Value(g); v != want {
			t.Errorf("%d: %d; want %d", g, v, want)
		}
	}
}

func TestValueOfEachGain(t *testing.T) {
	for g := range 45 {
		if v := Value(g); v != modelValue(g) {
			t.Errorf("%d: %d; want %d", g, v, modelValue(g))
		}
	}
}

func TestValueOfNoGain(t *testing.T) {
	wrong := []int{-1, -2, -5, -44, -45, -64, 45, 46, 47, 63, 64, 65, 66, 128, 256, 256 + 5, 65536 + 5, 1 << 32, 1<<32 + 5, -(1 << 32) + 5, 1 << 62, math.MaxInt, math.MinInt, math.MinInt + 1, math.MinInt + 5}
	for _, g := range wrong {
		if v := Value(g); v != 0 {
			t.Errorf("%d is no gain: %d", g, v)
		}
	}
	for g := 45; g < 1000; g++ {
		if Value(g) != 0 || Value(-g) != 0 {
			t.Errorf("%d, or its opposite: %d, %d", g, Value(g), Value(-g))
		}
	}
}

// P10.2: Gain.

func TestGainByHand(t *testing.T) {
	gainIs(t, []int64{3, -4}, 5)
	gainIs(t, []int64{0}, 0)
	gainIs(t, []int64{1}, 1)
	gainIs(t, []int64{-1}, 1)
	gainIs(t, []int64{1, 1}, 2)
	gainIs(t, []int64{1, -1, 1}, 2)
	gainIs(t, []int64{-2}, 3)
	gainIs(t, []int64{2, 1, 1, 1}, 3)
	gainIs(t, []int64{2, 2}, 4)
	gainIs(t, []int64{0, 0, 0, 0, 0, 0, 0, 5}, 5)
}

func TestGainEdges(t *testing.T) {
	for count := 1; count <= 8; count++ {
		gainIs(t, make([]int64, count), 0)
	}
	for _, v := range []int64{1 << 20, -(1 << 20)} {
		for count, want := range []int{0, 41, 42, 42, 43, 43, 43, 43, 44} {
			if count > 0 {
				gainIs(t, slices.Repeat([]int64{v}, count), want)
			}
		}
	}
	gainIs(t, []int64{1<<20 - 1}, 40)
	gainIs(t, append(slices.Repeat([]int64{1 << 20}, 7), 1<<20-1), 43)
}

func TestGainAny(t *testing.T) {
	for _, x := range someBands(0x9e3779b97f4a7c15, 5000) {
		gainIs(t, x, modelGain(x))
	}
}

func gainIsWrong(t *testing.T, x []int64) {
	t.Helper()
	if g, e := Gain(x); g != 0 || e != api.ErrArg {
		t.Errorf("%d numbers, %v..: %d, error %d", len(x), x[:min(len(x), 16)], g, e)
	}
}

func TestGainWrong(t *testing.T) {
	gainIsWrong(t, nil)
	for _, n := range wrongLengths(1, 2, 3, 4, 5, 6, 7, 8) {
		gainIsWrong(t, make([]int64, n))
		gainIsWrong(t, slices.Repeat([]int64{5}, n))
		gainIsWrong(t, slices.Repeat([]int64{1 << 20}, n))
	}
	for _, v := range beyond() {
		for n := 1; n <= 9; n++ {
			gainIsWrong(t, slices.Repeat([]int64{v}, n))
			for at := range n {
				x := slices.Repeat([]int64{-5}, n)
				x[at] = v
				gainIsWrong(t, x)
			}
		}
	}
	gainIsWrong(t, []int64{math.MaxInt64, math.MinInt64})
	gainIsWrong(t, []int64{1 << 62, 1 << 62, 1 << 62, 1 << 62})
}

// P10.2: Split.

func TestSplitByHand(t *testing.T) {
	splitIs(t, countTo16(), [][]int64{{1}, {2}, {3, 4}, {5, 6, 7, 8}, {9, 10, 11, 12, 13, 14, 15, 16}})
	splitIs(t, make([]int64, 16), [][]int64{{0}, {0}, {0, 0}, {0, 0, 0, 0}, {0, 0, 0, 0, 0, 0, 0, 0}})
}

func TestSplitAny(t *testing.T) {
	for _, c := range someFrames(0xd1342543de82ef95, 3000) {
		var want [][]int64
		for b, from := range modelFrom {
			want = append(want, c[from:modelTo[b]])
		}
		splitIs(t, c, want)
	}
}

// P10.2: Gains.

func TestGainsByHand(t *testing.T) {
	gainsAre(t, make([]int64, 16), []int{0, 0, 0, 0, 0})
	// The norms' squares are 1, 4, 25, 174, 1292.
	gainsAre(t, countTo16(), []int{1, 3, 5, 8, 11})
	gainsAre(t, []int64{0, -1, 3, -4, 0, 0, 0, 0, 0, 0, 0, 0, 0, 0, 0, 100}, []int{0, 1, 5, 0, 14})
	gainsAre(t, slices.Repeat([]int64{1 << 20}, 16), []int{41, 41, 42, 43, 44})
	gainsAre(t, slices.Repeat([]int64{-(1 << 20)}, 16), []int{41, 41, 42, 43, 44})
}

func TestGainsAny(t *testing.T) {
	for _, c := range someFrames(0x94d049bb133111eb, 3000) {
		var want []int
		for b, from := range modelFrom {
			want = append(want, modelGain(c[from:modelTo[b]]))
		}
		gainsAre(t, c, want)
	}
}

func frameIsWrong(t *testing.T, c []int64) {
	t.Helper()
	if l, e := Split(c); len(l) != 0 || e != api.ErrArg {
		t.Errorf("Split of %d numbers, %v..: %v, error %d", len(c), c[:min(len(c), 20)], l, e)
	}
	if g, e := Gains(c); len(g) != 0 || e != api.ErrArg {
		t.Errorf("Gains of %d numbers, %v..: %v, error %d", len(c), c[:min(len(c), 20)], g, e)
	}
}

func TestWrongFrames(t *testing.T) {
	frameIsWrong(t, nil)
	for _, n := range wrongLengths(16) {
		frameIsWrong(t, make([]int64, n))
		frameIsWrong(t, slices.Repeat([]int64{-7}, n))
	}
	// Not even where the spare room would make it long enough.
	frameIsWrong(t, make([]int64, 0, 16))
	frameIsWrong(t, make([]int64, 15, 32))
	for _, v := range beyond() {
		frameIsWrong(t, slices.Repeat([]int64{v}, 16))
		for at := range 16 {
			c := countTo16()
			c[at] = v
			frameIsWrong(t, c)
		}
	}
}

// What follows.

// P10.3
func TestBandsAreTheFrame(t *testing.T) {
	for _, c := range someFrames(0x5851f42d4c957f2d, 3000) {
		l, e := Split(c)
		if e != api.OK || len(l) != 5 || !slices.Equal(slices.Concat(l...), c) {
			t.Fatalf("%v: %v, error %d", c, l, e)
		}
		for b, x := range l {
			if len(x) != Width(b) || !slices.Equal(x, c[From(b):From(b)+Width(b)]) {
				t.Fatalf("%v: band %d is %v", c, b, x)
			}
		}
	}
}

// P10.3
func TestBandsAreOneBehindTheOther(t *testing.T) {
	at := 0
	for b := range 5 {
		if From(b) != at {
			t.Errorf("band %d begins at %d; want %d", b, From(b), at)
		}
		at += Width(b)
	}
	if at != 16 {
		t.Errorf("the last one ends at %d", at)
	}
}

// P10.4: both bounds are seen to be near, so that the test has something to hold.
func TestValueIsNearTheNorm(t *testing.T) {
	low, high := 0, 0
	for _, x := range someBands(0xda942042e4dd58b5, 5000) {
		g, e := Gain(x)
		if e != api.OK {
			t.Fatalf("%v: error %d", x, e)
		}
		v := big.NewInt(Value(g))
		below := new(big.Int).Mul(v, v)
		v.Add(v, big.NewInt(1))
		above := v.Mul(v, v).Lsh(v, 1)
		s := modelSquare(x)
		if below.Cmp(s) > 0 || s.Cmp(above) >= 0 {
			t.Fatalf("%v: gain %d, value %d", x, g, Value(g))
		}
		if below.Cmp(s) == 0 {
			low++
		}
		if s.Lsh(s, 1).Cmp(above) > 0 {
			high++
		}
	}
	if low < 100 || high < 100 {
		t.Errorf("%d have the value's square, %d more than half of the bound above", low, high)
	}
}

// larger is a coefficient of the same size or a greater one, of any sign.
func (x *chance) larger(v int64) int64 {
	size := max(v, -v)
	switch x.below(3) {
	case 0:
		size = min(size+1, 1<<20)
	case 1:
		size += int64(x.next() >> 3 % uint64(1<<20-size+1))
	}
	if x.below(2) == 1 {
		return -size
	}
	return size
}

// P10.5
func TestWhatGrowsHasNoLessGain(t *testing.T) {
	c := chance(0x2545f4914f6cdd1d)
	more := 0
	for _, x := range someBands(0x6c62272e07bb0142, 5000) {
		was, _ := Gain(x)
		grown := slices.Clone(x)
		for i, v := range x {
			if c.below(2) == 1 {
				grown[i] = c.larger(v)
			}
		}
		if len(grown) < 8 && c.below(4) == 0 {
			grown = append(grown, c.anyCoef(20))
		}
		is, e := Gain(grown)
		if e != api.OK || is < was {
			t.Fatalf("%v has the gain %d, %v has %d, error %d", x, was, grown, is, e)
		}
		if is > was {
			more++
		}
	}
	if more < 1000 {
		t.Errorf("%d have more gain", more)
	}
	for g := 1; g <= 44; g++ {
		if Value(g) < Value(g-1) {
			t.Errorf("the value of %d is less than that of %d", g, g-1)
		}
	}
}

// P10.5: the values of 42 to 44 are no coefficients.
func TestValueAloneHasItsGain(t *testing.T) {
	for g := range 42 {
		is, e := Gain([]int64{Value(g)})
		opposite, f := Gain([]int64{-Value(g)})
		if e != api.OK || f != api.OK || is != opposite {
			t.Fatalf("%d: %d, %d, errors %d, %d", g, is, opposite, e, f)
		}
		if is != g && (g%2 == 1 || is != g-1) {
			t.Errorf("the value of %d, alone, has the gain %d", g, is)
		}
	}
	for g := 42; g <= 44; g++ {
		gainIsWrong(t, []int64{Value(g)})
	}
}

// R3: what is handed in stays as it is, its spare room too, and what is answered is new memory. R4: what was done with an answer is not to be seen in the next one.

func TestCoefficientsStay(t *testing.T) {
	for _, c := range someFrames(0x27d4eb2f165667c5, 300) {
		room := append(slices.Clone(c), 3, -3, 1<<40)
		was := slices.Clone(room)
		_, e := Split(room[:16])
		_, f := Gains(room[:16])
		_, g := Gain(room[8:16])
		if e != api.OK || f != api.OK || g != api.OK || !slices.Equal(room, was) {
			t.Fatalf("%v: errors %d, %d, %d, %v", c, e, f, g, room)
		}
	}
}

// spoil writes over a list and its spare room.
func spoil[T int | int64](list []T) {
	for i := range list[:cap(list)] {
		list[:cap(list)][i] = 77
	}
}

// spoilBands writes over the bands, and over the list of them.
func spoilBands(l [][]int64) {
	for _, x := range l {
		spoil(x)
	}
	for i := range l[:cap(l)] {
		l[:cap(l)][i] = nil
	}
}

func copied(l [][]int64) [][]int64 {
	var out [][]int64
	for _, x := range l {
		out = append(out, slices.Clone(x))
	}
	return out
}

func TestAnswersAreNewMemory(t *testing.T) {
	for _, c := range someFrames(0xff51afd7ed558ccd, 300) {
		was := slices.Clone(c)
		first, _ := Split(c)
		told := copied(first)
		second, _ := Split(c)
		spoilBands(second)
		g, _ := Gains(c)
		gains := slices.Clone(g)
		if !sameBands(first, told) || !slices.Equal(c, was) {
			t.Fatalf("%v: memory is shared", was)
		}
		spoilBands(first)
		spoil(g)
		if !slices.Equal(c, was) {
			t.Fatalf("%v: memory is shared, now %v", was, c)
		}
		splitIs(t, c, told)
		gainsAre(t, c, gains)
	}
}

// The spare room of a band is not another band's.
func TestBandsShareNoMemory(t *testing.T) {
	for _, c := range someFrames(0xc4ceb9fe1a85ec53, 100) {
		told, _ := Split(c)
		for b := range told {
			l, _ := Split(c)
			spoil(l[b])
			l[b] = append(l[b], 77, 77)
			for other := range l {
				if other != b && !slices.Equal(l[other], told[other]) {
					t.Fatalf("%v: bands %d and %d share memory", c, b, other)
				}
			}
		}
	}
}
