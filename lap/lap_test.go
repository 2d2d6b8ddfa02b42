package lap

import (
	"math"
	"math/big"
	"slices"
	"testing"

	"psaltery/api"
	"psaltery/wave"
)

// The tests hold the layer against a model that takes a pair of samples after the other out of the two halves of a list, and divides with the library's long numbers.

// chance is a row of numbers that do not repeat soon.
type chance uint64

func (x *chance) next() uint64 {
	*x ^= *x << 13
	*x ^= *x >> 7
	*x ^= *x << 17
	return uint64(*x)
}

func (x *chance) below(n int) int {
	return int(x.next() >> 3 % uint64(n))
}

// anyNumber is a number of at most 2^bits, short ones as often as long ones.
func (x *chance) anyNumber(bits int) int64 {
	v := int64(x.next() >> 3 % (1<<(x.below(bits)+1) + 1))
	if x.below(2) == 1 {
		return -v
	}
	return v
}

// anyList is a list of n numbers of any kind within 2^bits: long and short ones, near ones, bounds, many that are the same.
func (x *chance) anyList(n, bits int) []int64 {
	list := make([]int64, n)
	one := x.anyNumber(bits)
	mode := x.below(5)
	for i := range list {
		kind := mode
		if mode == 4 {
			kind = x.below(4)
		}
		switch kind {
		case 0:
			list[i] = x.anyNumber(bits)
		case 1:
			list[i] = one/2 + int64(x.below(5)) - 2
		case 2:
			list[i] = int64(x.below(3)-1) << bits
		case 3:
			list[i] = one
		}
	}
	return list
}

// anyFrames are n lists of size numbers within 2^bits.
func (x *chance) anyFrames(n, size, bits int) [][]int64 {
	l := make([][]int64, n)
	for i := range l {
		l[i] = x.anyList(size, bits)
	}
	return l
}

func sizes() []int {
	return []int{8, 16, 32}
}

func wrongSizes() []int {
	out := []int{math.MinInt, math.MinInt + 8, math.MinInt + 16, -32, -16, -8, -1, 40, 48, 64, 128, 256, 256 + 8, 4000, 4096, 65536 + 8, 1<<32 + 8, 1<<32 + 16, 1<<32 + 32, math.MaxInt - 7, math.MaxInt}
	for n := range 40 {
		if !slices.Contains(sizes(), n) {
			out = append(out, n)
		}
	}
	return out
}

// edges are the numbers next to which something changes: noughts and the bounds, and the whole 16ths.
func edges(bound int64) []int64 {
	out := []int64{0, 1, 2, 3, 4, 5, 7, 8, 15, 16, 17, bound / 2, bound/2 + 1, bound - 2, bound - 1, bound}
	for _, v := range slices.Clone(out) {
		out = append(out, -v)
	}
	return out
}

// bordered is a list with a place in it.
type bordered struct {
	x []int64
	p int
}

// borders are lists within 2^bits with a border that has 4 samples on each side, many just so: edges against each other at each distance, and n of any kind.
func borders(c chance, bits, n int) []bordered {
	var out []bordered
	e := edges(1 << bits)
	for _, v := range e {
		for _, w := range e {
			out = append(out, bordered{append(slices.Repeat([]int64{v}, 4), slices.Repeat([]int64{w}, 4)...), 4})
			for k := range 4 {
				one := make([]int64, 8)
				one[3-k], one[4+k] = v, w
				out = append(out, bordered{one, 4})
			}
		}
	}
	for range n {
		ahead, behind := 4, 4
		if c.below(2) == 1 {
			ahead, behind = 4+c.below(12), 4+c.below(12)
		}
		out = append(out, bordered{c.anyList(ahead+behind, bits), ahead})
	}
	out = append(out, bordered{c.anyList(4000, bits), 4}, bordered{c.anyList(4000, bits), 3996}, bordered{c.anyList(4000, bits), 2000})
	return out
}

// wrongLists are too long, or have a sample beyond the bound at any place.
func wrongLists(bound int64) [][]int64 {
	out := [][]int64{make([]int64, 4001), make([]int64, 4002), make([]int64, 4008), make([]int64, 4032), make([]int64, 8000), make([]int64, 65536+16), slices.Repeat([]int64{bound}, 4001)}
	for _, v := range []int64{bound + 1, bound + 2, 2 * bound, 1 << 31, 1 << 32, 1<<32 + 1, 1 << 62, math.MaxInt64, math.MinInt64, math.MinInt64 + 1} {
		for _, n := range []int{1, 2, 8, 16, 33} {
			for at := range n {
				more, less := slices.Repeat([]int64{5}, n), make([]int64, n)
				more[at], less[at] = v, -v
				out = append(out, more, less)
			}
			out = append(out, slices.Repeat([]int64{v}, n), slices.Repeat([]int64{-v}, n))
		}
		for _, at := range []int{0, 1, 1999, 3998, 3999} {
			long := make([]int64, 4000)
			long[at] = v
			out = append(out, long)
		}
	}
	return out
}

// wrongPlaces are those that have not 4 of so many samples on each side.
func wrongPlaces(count int) []int {
	out := []int{math.MinInt, math.MinInt + 1, math.MinInt + 4, math.MinInt + 8, -1 << 32, 4 - 1<<32, -count, -5, -4, -3, -1, 0, 1, 2, 3, 1<<32 + 4, 4001, 1 << 32, 1 << 62, math.MaxInt - 4, math.MaxInt - 3, math.MaxInt - 1, math.MaxInt}
	for p := max(count-3, 0); p <= count+9; p++ {
		out = append(out, p)
	}
	return out
}

// sixteenths is w 16ths of a sample: the library's Div by a number above 0 leaves a rest that isn't below 0, so that it goes down.
func sixteenths(sample int64, w int) int64 {
	product := new(big.Int).Mul(big.NewInt(sample), big.NewInt(int64(w)))
	return product.Div(product, big.NewInt(16)).Int64()
}

// modelTurned turns the border: the weights go down by two from 7.
func modelTurned(x []int64, p int) []int64 {
	ahead, behind := slices.Clone(x[:p]), slices.Clone(x[p:])
	slices.Reverse(ahead)
	for k, w := 0, 7; w > 0; k, w = k+1, w-2 {
		v := behind[k] - sixteenths(ahead[k], w)
		u := ahead[k] + sixteenths(v, w)
		ahead[k], behind[k] = u, v
	}
	slices.Reverse(ahead)
	return append(ahead, behind...)
}

// modelBack turns it back.
func modelBack(x []int64, p int) []int64 {
	ahead, behind := slices.Clone(x[:p]), slices.Clone(x[p:])
	slices.Reverse(ahead)
	for k, w := 0, 7; w > 0; k, w = k+1, w-2 {
		u := ahead[k] - sixteenths(behind[k], w)
		v := behind[k] + sixteenths(u, w)
		ahead[k], behind[k] = u, v
	}
	slices.Reverse(ahead)
	return append(ahead, behind...)
}

// modelFilled fills a signal up with noughts.
func modelFilled(x []int64, size int) []int64 {
	filled := slices.Clone(x)
	for len(filled)%size != 0 {
		filled = append(filled, 0)
	}
	return filled
}

func modelFrames(t *testing.T, x []int64, size int) [][]int64 {
	t.Helper()
	filled := modelFilled(x, size)
	for border := 1; border < len(filled)/size; border++ {
		around := filled[border*size-4 : border*size+4]
		copy(around, modelTurned(around, 4))
	}
	var out [][]int64
	for block := range slices.Chunk(filled, size) {
		frame, e := wave.Forward(block)
		if e != api.OK {
			t.Fatalf("wave.Forward(%v): error %d", block, e)
		}
		out = append(out, frame)
	}
	return out
}

func modelSignal(t *testing.T, l [][]int64, size int) []int64 {
	t.Helper()
	var out []int64
	for _, frame := range l {
		block, e := wave.Inverse(frame)
		if e != api.OK {
			t.Fatalf("wave.Inverse(%v): error %d", frame, e)
		}
		out = append(out, block...)
	}
	for border := len(l) - 1; border > 0; border-- {
		around := out[border*size-4 : border*size+4]
		copy(around, modelBack(around, 4))
	}
	return out
}

func sameFrames(a, b [][]int64) bool {
	return slices.EqualFunc(a, b, slices.Equal[[]int64])
}

func turnIs(t *testing.T, x []int64, p int, want []int64) {
	t.Helper()
	if y, e := Turn(x, p); e != api.OK || !slices.Equal(y, want) {
		t.Fatalf("Turn(%v, %d): %v, error %d; want %v", x, p, y, e, want)
	}
}

func backIs(t *testing.T, x []int64, p int, want []int64) {
	t.Helper()
	if y, e := Back(x, p); e != api.OK || !slices.Equal(y, want) {
		t.Fatalf("Back(%v, %d): %v, error %d; want %v", x, p, y, e, want)
	}
}

func framesAre(t *testing.T, x []int64, size int, want [][]int64) {
	t.Helper()
	if l, e := Frames(x, size); e != api.OK || !sameFrames(l, want) {
		t.Fatalf("Frames(%v, %d): %v, error %d; want %v", x, size, l, e, want)
	}
}

func signalIs(t *testing.T, l [][]int64, size int, want []int64) {
	t.Helper()
	if x, e := Signal(l, size); e != api.OK || !slices.Equal(x, want) {
		t.Fatalf("Signal(%v, %d): %v, error %d; want %v", l, size, x, e, want)
	}
}

// someSignals are signals of all short lengths, of the longest ones, and of n lengths between.
func someSignals(c chance, n int) [][]int64 {
	out := [][]int64{nil, {}}
	for count := 1; count <= 100; count++ {
		out = append(out, c.anyList(count, 18), c.anyList(count, 18))
	}
	for count := 3967; count <= 4000; count++ {
		out = append(out, c.anyList(count, 18))
	}
	for range n {
		out = append(out, c.anyList(c.below(4001), 18))
	}
	for _, v := range []int64{1 << 18, -(1 << 18)} {
		out = append(out, slices.Repeat([]int64{v}, 4000), slices.Repeat([]int64{v, -v}, 2000))
		for _, size := range sizes() {
			steps := append(slices.Repeat([]int64{v}, size), slices.Repeat([]int64{-v}, size)...)
			out = append(out, slices.Repeat(steps, 5))
		}
	}
	return out
}

// P9.1: Right.

func TestBoundsAreAsTold(t *testing.T) {
	if MaxSignal != 4000 || MaxSample != 262144 || Reach != 4 {
		t.Errorf("%d samples, %d at most, %d on each side", MaxSignal, MaxSample, Reach)
	}
}

func TestRightSignals(t *testing.T) {
	lists := append(someSignals(0x9e3779b97f4a7c15, 50), slices.Repeat([]int64{1 << 18}, 4000), slices.Repeat([]int64{-(1 << 18)}, 4000))
	for _, v := range edges(1 << 18) {
		lists = append(lists, []int64{v}, []int64{0, v})
	}
	for _, x := range lists {
		if !Right(x) {
			t.Fatalf("%v is a signal", x)
		}
	}
}

func TestWrongSignals(t *testing.T) {
	for _, x := range wrongLists(1 << 18) {
		if Right(x) {
			t.Errorf("%d samples, %v.. are no signal", len(x), x[:min(len(x), 33)])
		}
	}
}

// P9.1: Turn.

func TestTurnExample(t *testing.T) {
	turnIs(t, []int64{0, 0, 0, 16, 16, 0, 0, 0}, 4, []int64{0, 0, 0, 19, 9, 0, 0, 0})
}

// Each distance has its own weight, and a part goes down, not towards 0: reckoned by hand.
func TestTurnByHand(t *testing.T) {
	turnIs(t, []int64{16, 16, 16, 16, 0, 0, 0, 0}, 4, []int64{15, 15, 14, 12, -7, -5, -3, -1})
	turnIs(t, []int64{0, 0, 0, 0, 16, 16, 16, 16}, 4, []int64{1, 3, 5, 7, 16, 16, 16, 16})
	turnIs(t, []int64{-1, -1, -1, -1, 0, 0, 0, 0}, 4, []int64{-1, -1, -1, -1, 1, 1, 1, 1})
	turnIs(t, []int64{0, 0, 0, 0, -1, -1, -1, -1}, 4, []int64{-1, -1, -1, -1, -1, -1, -1, -1})
	turnIs(t, []int64{1, 1, 1, 1, 1, 1, 1, 1}, 4, []int64{1, 1, 1, 1, 1, 1, 1, 1})
	turnIs(t, []int64{9, 9, 0, 0, 0, 16, 16, 0, 0, 0, 9}, 6, []int64{9, 9, 0, 0, 0, 19, 9, 0, 0, 0, 9})
}

func TestTurnEdges(t *testing.T) {
	turnIs(t, make([]int64, 8), 4, make([]int64, 8))
	const most = 1 << 18
	turnIs(t, []int64{0, 0, 0, -most, most, 0, 0, 0}, 4, []int64{0, 0, 0, -most + 161<<10, 23 << 14, 0, 0, 0})
	turnIs(t, []int64{0, 0, 0, most, -most, 0, 0, 0}, 4, []int64{0, 0, 0, most - 161<<10, -23 << 14, 0, 0, 0})
	long := slices.Repeat([]int64{16}, 4000)
	for _, p := range []int{4, 5, 2000, 3995, 3996} {
		turnIs(t, long, p, modelTurned(long, p))
	}
}

func TestTurnAny(t *testing.T) {
	for _, b := range borders(0xd1342543de82ef95, 18, 10000) {
		turnIs(t, b.x, b.p, modelTurned(b.x, b.p))
	}
}

func TestTurnWrongSignal(t *testing.T) {
	for _, x := range wrongLists(1 << 18) {
		for _, p := range []int{4, len(x) / 2, len(x) - 4} {
			if y, e := Turn(x, p); len(y) != 0 || e != api.ErrArg {
				t.Errorf("%d samples, %v.., at %d: %v, error %d", len(x), x[:min(len(x), 33)], p, y, e)
			}
		}
	}
}

func TestWrongPlaces(t *testing.T) {
	for _, call := range []func([]int64, int) ([]int64, api.Errno){Turn, Back} {
		for _, count := range []int{0, 1, 3, 4, 5, 7, 8, 9, 15, 16, 3999, 4000} {
			x := slices.Repeat([]int64{5}, count)
			for _, p := range wrongPlaces(count) {
				if y, e := call(x, p); len(y) != 0 || e != api.ErrArg {
					t.Errorf("%d samples, at %d: %v, error %d", count, p, y, e)
				}
			}
			for p := 4; p <= count-4; p++ {
				if y, e := call(x, p); len(y) != count || e != api.OK {
					t.Errorf("%d samples, at %d: %d of them, error %d", count, p, len(y), e)
				}
			}
		}
		if y, e := call(nil, 0); len(y) != 0 || e != api.ErrArg {
			t.Errorf("nil: %v, error %d", y, e)
		}
	}
}

// P9.1: Back.

func TestBackByHand(t *testing.T) {
	backIs(t, []int64{0, 0, 0, 19, 9, 0, 0, 0}, 4, []int64{0, 0, 0, 16, 16, 0, 0, 0})
	backIs(t, []int64{15, 15, 14, 12, -7, -5, -3, -1}, 4, []int64{16, 16, 16, 16, 0, 0, 0, 0})
	// Of samples that no Turn need have made: 16 less 7 is 9, then 16 and 3 is 19.
	backIs(t, []int64{0, 0, 0, 16, 16, 0, 0, 0}, 4, []int64{0, 0, 0, 9, 19, 0, 0, 0})
	backIs(t, []int64{16, 16, 16, 16, 0, 0, 0, 0}, 4, []int64{16, 16, 16, 16, 7, 5, 3, 1})
	backIs(t, []int64{0, 0, 0, 0, 16, 16, 16, 16}, 4, []int64{-1, -3, -5, -7, 12, 14, 15, 15})
	backIs(t, []int64{0, 0, 0, 0, -1, -1, -1, -1}, 4, []int64{1, 1, 1, 1, -1, -1, -1, -1})
}

// It takes samples four times as great as those of a signal, none greater.
func TestBackEdges(t *testing.T) {
	const most = 1 << 20
	backIs(t, make([]int64, 8), 4, make([]int64, 8))
	backIs(t, []int64{0, 0, 0, most, most, 0, 0, 0}, 4, []int64{0, 0, 0, 9 << 16, most + 63<<12, 0, 0, 0})
	backIs(t, []int64{0, 0, 0, -most, most, 0, 0, 0}, 4, []int64{0, 0, 0, -23 << 16, most - 161<<12, 0, 0, 0})
	backIs(t, []int64{most, -most, 0, 0, 0, 0, 0, 0, 0, 0, -most, most}, 6, []int64{most, -most, 0, 0, 0, 0, 0, 0, 0, 0, -most, most})
	for _, v := range []int64{most, -most} {
		long := slices.Repeat([]int64{v}, 4000)
		for _, p := range []int{4, 2000, 3996} {
			backIs(t, long, p, modelBack(long, p))
		}
	}
}

func TestBackAny(t *testing.T) {
	for _, b := range borders(0x94d049bb133111eb, 20, 10000) {
		backIs(t, b.x, b.p, modelBack(b.x, b.p))
	}
}

func TestBackWrongSamples(t *testing.T) {
	for _, x := range wrongLists(1 << 20) {
		for _, p := range []int{4, len(x) / 2, len(x) - 4} {
			if y, e := Back(x, p); len(y) != 0 || e != api.ErrArg {
				t.Errorf("%d samples, %v.., at %d: %v, error %d", len(x), x[:min(len(x), 33)], p, y, e)
			}
		}
	}
}

// P9.2: Frames.

// The border of two blocks is that of the example; the blocks are parted by hand.
func TestFramesByHand(t *testing.T) {
	x := make([]int64, 16)
	x[7], x[8] = 16, 16
	framesAre(t, x, 8, [][]int64{{2, 4, 0, 9, 0, 0, 0, 19}, {1, -2, -4, 0, -9, 0, 0, 0}})
	// Noughts behind the last sample are filled up, and the border is turned with them.
	framesAre(t, x[:9], 8, [][]int64{{2, 4, 0, 9, 0, 0, 0, 19}, {1, -2, -4, 0, -9, 0, 0, 0}})
	framesAre(t, []int64{8, 8, 8, 8}, 8, [][]int64{{4, -8, 0, 0, 0, 0, 0, 0}})
	// In one block there is no border: neither at 8 nor at its ends.
	framesAre(t, x, 16, [][]int64{{2, 0, 4, -4, 0, 8, -8, 0, 0, 0, 0, 16, -16, 0, 0, 0}})
}

func TestFramesOfNothing(t *testing.T) {
	for _, size := range sizes() {
		framesAre(t, nil, size, nil)
		framesAre(t, []int64{}, size, nil)
	}
}

func TestFramesAny(t *testing.T) {
	for _, x := range someSignals(0x5851f42d4c957f2d, 30) {
		for _, size := range sizes() {
			framesAre(t, x, size, modelFrames(t, x, size))
		}
	}
}

func TestFramesAreSoMany(t *testing.T) {
	x := slices.Repeat([]int64{1 << 18}, 4000)
	for _, size := range sizes() {
		for count := range 4001 {
			l, e := Frames(x[:count], size)
			if e != api.OK || len(l) != (count+size-1)/size {
				t.Fatalf("%d samples in blocks of %d: %d frames, error %d", count, size, len(l), e)
			}
			for _, frame := range l {
				if len(frame) != size {
					t.Fatalf("%d samples in blocks of %d: a frame has %d", count, size, len(frame))
				}
			}
		}
	}
}

func TestFramesWrong(t *testing.T) {
	for _, x := range wrongLists(1 << 18) {
		for _, size := range sizes() {
			if l, e := Frames(x, size); len(l) != 0 || e != api.ErrArg {
				t.Errorf("%d samples, %v.., size %d: %d frames, error %d", len(x), x[:min(len(x), 33)], size, len(l), e)
			}
		}
	}
	for _, size := range wrongSizes() {
		for _, x := range [][]int64{nil, {1}, make([]int64, 32), make([]int64, 4000), make([]int64, 4001)} {
			if l, e := Frames(x, size); len(l) != 0 || e != api.ErrArg {
				t.Errorf("%d samples, size %d: %d frames, error %d", len(x), size, len(l), e)
			}
		}
	}
}

// P9.2: Signal.

func TestSignalByHand(t *testing.T) {
	x := make([]int64, 16)
	x[7], x[8] = 16, 16
	signalIs(t, [][]int64{{2, 4, 0, 9, 0, 0, 0, 19}, {1, -2, -4, 0, -9, 0, 0, 0}}, 8, x)
	signalIs(t, [][]int64{{4, -8, 0, 0, 0, 0, 0, 0}}, 8, []int64{8, 8, 8, 8, 0, 0, 0, 0})
	signalIs(t, [][]int64{{2, 0, 4, -4, 0, 8, -8, 0, 0, 0, 0, 16, -16, 0, 0, 0}}, 16, x)
	// The last border first: noughts, and a block of 16 behind them.
	sixteen := []int64{16, 0, 0, 0, 0, 0, 0, 0}
	signalIs(t, [][]int64{make([]int64, 8), sixteen}, 8, []int64{0, 0, 0, 0, -1, -3, -5, -7, 12, 14, 15, 15, 16, 16, 16, 16})
}

func TestSignalOfNothing(t *testing.T) {
	for _, size := range sizes() {
		signalIs(t, nil, size, nil)
		signalIs(t, [][]int64{}, size, nil)
	}
}

// The frames may be any that wave.Inverse takes: what comes of them need be no signal, nor such as Back takes.
func TestSignalAny(t *testing.T) {
	c := chance(0x6c62272e07bb0142)
	beyond := 0
	for _, bits := range []int{4, 18, 20, 26} {
		for _, size := range sizes() {
			for n := range 60 {
				l := c.anyFrames(n, size, bits)
				signalIs(t, l, size, modelSignal(t, l, size))
				x, _ := Signal(l, size)
				if !fits(x, 1<<20) {
					beyond++
				}
			}
			l := c.anyFrames(4000/size, size, bits)
			signalIs(t, l, size, modelSignal(t, l, size))
		}
	}
	if beyond < 100 {
		t.Errorf("%d are beyond what Back takes", beyond)
	}
}

func TestSignalEdges(t *testing.T) {
	for _, size := range sizes() {
		for _, v := range []int64{1 << 26, -(1 << 26)} {
			l := slices.Repeat([][]int64{slices.Repeat([]int64{v}, size)}, 4000/size)
			signalIs(t, l, size, modelSignal(t, l, size))
		}
	}
}

func signalIsWrong(t *testing.T, l [][]int64, size int) {
	t.Helper()
	if x, e := Signal(l, size); len(x) != 0 || e != api.ErrArg {
		t.Errorf("%d frames, size %d: %d samples, error %d", len(l), size, len(x), e)
	}
}

func TestSignalWrongSize(t *testing.T) {
	for _, size := range wrongSizes() {
		signalIsWrong(t, nil, size)
		signalIsWrong(t, [][]int64{nil}, size)
		signalIsWrong(t, [][]int64{{}, {}}, size)
		if size > 0 && size <= 65536+8 {
			signalIsWrong(t, [][]int64{make([]int64, size)}, size)
			signalIsWrong(t, [][]int64{make([]int64, size), make([]int64, size)}, size)
		}
		for _, n := range sizes() {
			signalIsWrong(t, [][]int64{make([]int64, n)}, size)
		}
	}
}

func TestSignalTooLong(t *testing.T) {
	for _, size := range sizes() {
		frame := make([]int64, size)
		for _, n := range []int{4000/size + 1, 4000/size + 2, 4000, 4001, 70000} {
			signalIsWrong(t, slices.Repeat([][]int64{frame}, n), size)
		}
		if x, e := Signal(slices.Repeat([][]int64{frame}, 4000/size), size); len(x) != 4000 || e != api.OK {
			t.Errorf("size %d: %d samples, error %d", size, len(x), e)
		}
	}
}

// fourFrames are always the same ones.
func fourFrames(size int) [][]int64 {
	c := chance(0x41c64e6da3bc0074)
	return c.anyFrames(4, size, 18)
}

// A frame of another length, or one that wave.Inverse doesn't take, at any place, also where the samples in all are as many as they should be.
func TestSignalWrongFrame(t *testing.T) {
	for _, size := range sizes() {
		for at := range 4 {
			for _, n := range []int{0, 1, 2, 4, 7, 8, 9, 15, 16, 17, 31, 32, 33, 64, 128, 4000, 4001} {
				if n != size {
					l := fourFrames(size)
					l[at] = make([]int64, n)
					signalIsWrong(t, l, size)
				}
			}
			l := fourFrames(size)
			l[at] = nil
			signalIsWrong(t, l, size)
			for _, v := range []int64{1<<26 + 1, 1 << 27, 1<<32 + 1, math.MaxInt64, math.MinInt64 + 1, math.MinInt64} {
				for place := range size {
					l := fourFrames(size)
					l[at][place] = v
					signalIsWrong(t, l, size)
					l[at][place] = -v
					signalIsWrong(t, l, size)
				}
			}
		}
		signalIsWrong(t, [][]int64{make([]int64, size-1), make([]int64, size+1)}, size)
		signalIsWrong(t, [][]int64{make([]int64, 2*size), nil}, size)
		signalIsWrong(t, slices.Repeat([][]int64{nil}, 4000), size)
		signalIsWrong(t, slices.Repeat([][]int64{nil}, 4000/size), size)
	}
}

// What follows.

// P9.3
func TestBackOfTurn(t *testing.T) {
	for _, b := range borders(0x2545f4914f6cdd1d, 18, 10000) {
		y, e := Turn(b.x, b.p)
		if e != api.OK {
			t.Fatalf("Turn(%v, %d): error %d", b.x, b.p, e)
		}
		backIs(t, y, b.p, b.x)
	}
}

// P9.3: nor does a change beyond the reach change what is made within it.
func TestNoOtherSampleChanges(t *testing.T) {
	for _, call := range []func([]int64, int) ([]int64, api.Errno){Turn, Back} {
		for _, b := range borders(0xda942042e4dd58b5, 18, 5000) {
			y, e := call(b.x, b.p)
			if e != api.OK || len(y) != len(b.x) {
				t.Fatalf("%v at %d: %v, error %d", b.x, b.p, y, e)
			}
			if !slices.Equal(y[:b.p-4], b.x[:b.p-4]) || !slices.Equal(y[b.p+4:], b.x[b.p+4:]) {
				t.Fatalf("%v at %d: %v", b.x, b.p, y)
			}
			alone, e := call(b.x[b.p-4:b.p+4], 4)
			if e != api.OK || !slices.Equal(alone, y[b.p-4:b.p+4]) {
				t.Fatalf("%v at %d: %v, and alone %v", b.x, b.p, y, alone)
			}
		}
	}
}

// P9.4
func TestSignalOfFrames(t *testing.T) {
	for _, x := range someSignals(0x27d4eb2f165667c5, 30) {
		for _, size := range sizes() {
			l, e := Frames(x, size)
			if e != api.OK {
				t.Fatalf("Frames(%v, %d): error %d", x, size, e)
			}
			signalIs(t, l, size, modelFilled(x, size))
		}
	}
}

// mayChange tells whether a sample at a place may change a frame.
func mayChange(place, frame, size int) bool {
	within := place % size
	switch frame - place/size {
	case 0:
		return true
	case -1:
		return within < 4
	case 1:
		return within >= size-4
	}
	return false
}

// nearer is the next sample towards 0, and 1 for 0 itself, so that it is one of a signal's too.
func nearer(v int64) int64 {
	if v > 0 {
		return v - 1
	}
	return v + 1
}

// P9.5: the frames beyond a border are seen to change too, so that the test has something to hold.
func TestSampleChangesFewFrames(t *testing.T) {
	c := chance(0x85ebca77c2b2ae63)
	for _, size := range sizes() {
		beyond := 0
		for _, count := range []int{size, 2 * size, 4*size + 3, 5 * size} {
			x := c.anyList(count, 18)
			was, _ := Frames(x, size)
			for place := range x {
				for _, v := range []int64{nearer(x[place]), 0, 1 << 18, -(1 << 18), c.anyNumber(18)} {
					other := slices.Clone(x)
					other[place] = v
					is, e := Frames(other, size)
					if e != api.OK || len(is) != len(was) {
						t.Fatalf("Frames(%v, %d): %d frames, error %d", other, size, len(is), e)
					}
					changed := 0
					for i := range is {
						if slices.Equal(is[i], was[i]) {
							continue
						}
						changed++
						if !mayChange(place, i, size) {
							t.Fatalf("blocks of %d: the sample at %d changes frame %d", size, place, i)
						}
						if i != place/size {
							beyond++
						}
					}
					if (changed > 0) != (v != x[place]) {
						t.Fatalf("blocks of %d: the sample at %d, from %d to %d, changes %d frames", size, place, x[place], v, changed)
					}
				}
			}
		}
		if beyond < 20 {
			t.Errorf("blocks of %d: %d changes beyond a border", size, beyond)
		}
	}
}

// R3: what is handed in stays as it is, its spare room too, and what is answered is new memory. R4: what was done with an answer is not to be seen in the next one.

func TestListsStay(t *testing.T) {
	for _, b := range borders(0xc2b2ae3d27d4eb4f, 18, 500) {
		room := append(slices.Clone(b.x), 3, -3, 1<<40)
		was := slices.Clone(room)
		x := room[:len(b.x)]
		Right(x)
		_, e := Turn(x, b.p)
		_, f := Back(x, b.p)
		_, g := Frames(x, 8)
		if e != api.OK || f != api.OK || g != api.OK || !slices.Equal(room, was) {
			t.Fatalf("%v: errors %d, %d, %d, %v", b.x, e, f, g, room)
		}
	}
}

func TestFramesHandedInStay(t *testing.T) {
	c := chance(0x165667b19e3779f9)
	for _, size := range sizes() {
		for n := range 20 {
			rooms := c.anyFrames(n+1, size+3, 20)
			l := make([][]int64, n+1)
			was := make([][]int64, n+1)
			for i, room := range rooms {
				l[i], was[i] = room[:size], slices.Clone(room)
			}
			last := l[n]
			x, e := Signal(l[:n], size)
			spoil(x)
			if e != api.OK || !sameFrames(rooms, was) || &l[n][0] != &last[0] {
				t.Fatalf("%d frames of %d: error %d, %v", n, size, e, rooms)
			}
		}
	}
}

// spoil writes over a list and its spare room.
func spoil(list []int64) {
	for i := range list[:cap(list)] {
		list[:cap(list)][i] = 77
	}
}

func TestAnswersAreNewMemory(t *testing.T) {
	frames := func(x []int64, p int) ([]int64, api.Errno) {
		return Signal([][]int64{x[:8], x[:8]}, 8)
	}
	for _, call := range []func([]int64, int) ([]int64, api.Errno){Turn, Back, frames} {
		for _, b := range borders(0xff51afd7ed558ccd, 18, 300) {
			was := slices.Clone(b.x)
			first, _ := call(b.x, b.p)
			told := slices.Clone(first)
			second, _ := call(b.x, b.p)
			spoil(second)
			if !slices.Equal(first, told) || !slices.Equal(b.x, was) {
				t.Fatalf("%v: memory is shared", was)
			}
			spoil(first)
			if third, e := call(b.x, b.p); e != api.OK || !slices.Equal(third, told) || !slices.Equal(b.x, was) {
				t.Fatalf("%v: %v, and then %v", was, told, third)
			}
		}
	}
}

func TestFramesShareNoMemory(t *testing.T) {
	for _, x := range someSignals(0xc4ceb9fe1a85ec53, 5) {
		for _, size := range sizes() {
			was := slices.Clone(x)
			l, _ := Frames(x, size)
			told, _ := Frames(x, size)
			for i := range l {
				spoil(l[i])
				if i+1 < len(l) && !slices.Equal(l[i+1], told[i+1]) {
					t.Fatalf("%v, size %d: frames %d and %d share memory", x, size, i, i+1)
				}
			}
			if again, e := Frames(x, size); e != api.OK || !slices.Equal(x, was) || !sameFrames(again, told) {
				t.Fatalf("%v, size %d: memory is shared", was, size)
			}
		}
	}
}
