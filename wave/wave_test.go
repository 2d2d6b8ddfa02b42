package wave

import (
	"math"
	"math/big"
	"slices"
	"testing"

	"psaltery/api"
)

// The tests hold the layer against a model that goes through the levels by a loop, and halves the sum of a pair, not its difference, with the library's long numbers.

// chance is a row of numbers that do not repeat soon.
type chance uint64

func (x *chance) next() uint64 {
	*x ^= *x << 13
	*x ^= *x >> 7
	*x ^= *x << 17
	return uint64(*x)
}

func (x *chance) below(n int) int {
	return int(x.next() >> 3 % uint64(n))
}

// anyNumber is a number of at most 2^bits, short ones as often as long ones.
func (x *chance) anyNumber(bits int) int64 {
	v := int64(x.next() >> 3 % (1<<(x.below(bits)+1) + 1))
	if x.below(2) == 1 {
		return -v
	}
	return v
}

// anyList is a list of any kind: long and short numbers, near ones, bounds, many that are the same.
func (x *chance) anyList(bits int) []int64 {
	list := make([]int64, lengths()[x.below(5)])
	one := x.anyNumber(bits)
	mode := x.below(5)
	for i := range list {
		kind := mode
		if mode == 4 {
			kind = x.below(4)
		}
		switch kind {
		case 0:
			list[i] = x.anyNumber(bits)
		case 1:
			list[i] = one/2 + int64(x.below(5)) - 2
		case 2:
			list[i] = int64(x.below(3)-1) << bits
		case 3:
			list[i] = one
		}
	}
	return list
}

func lengths() []int {
	return []int{2, 4, 8, 16, 32}
}

// edges are the numbers next to which something changes: noughts and the bounds, odd ones and even ones.
func edges(bound int64) []int64 {
	out := []int64{0, 1, 2, 3, bound / 2, bound/2 + 1, bound - 2, bound - 1, bound}
	for _, v := range slices.Clone(out) {
		out = append(out, -v)
	}
	return out
}

// samples are lists of all kinds and lengths within 2^bits, beginning with a seed.
func samples(x chance, bits, n int) [][]int64 {
	var out [][]int64
	e := edges(1 << bits)
	for _, size := range lengths() {
		for _, v := range e {
			for at := range size {
				one := make([]int64, size)
				one[at] = v
				out = append(out, one)
			}
			for _, w := range e {
				out = append(out, slices.Repeat([]int64{v, w}, size/2))
				out = append(out, append(slices.Repeat([]int64{v}, size/2), slices.Repeat([]int64{w}, size/2)...))
			}
		}
	}
	for range n {
		out = append(out, x.anyList(bits))
	}
	return out
}

// small are all lists of so many numbers from low to high.
func small(size int, low, high int64) [][]int64 {
	lists := [][]int64{nil}
	for range size {
		var longer [][]int64
		for _, l := range lists {
			for v := low; v <= high; v++ {
				longer = append(longer, append(slices.Clone(l), v))
			}
		}
		lists = longer
	}
	return lists
}

// wrongLists are too short, too long, of a length between, or have a number beyond the bound at any place.
func wrongLists(bound int64) [][]int64 {
	out := [][]int64{nil, {}}
	for n := 1; n <= 130; n++ {
		if !slices.Contains(lengths(), n) {
			out = append(out, make([]int64, n), slices.Repeat([]int64{7}, n), slices.Repeat([]int64{bound + 1}, n))
		}
	}
	for _, n := range []int{256, 256 + 2, 512, 1024, 4096, 65536, 65536 + 4, 65536 + 32} {
		out = append(out, make([]int64, n))
	}
	for _, v := range []int64{bound + 1, bound + 2, 2 * bound, 1 << 31, 1 << 32, 1<<32 + 1, 1 << 62, math.MaxInt64, math.MinInt64, math.MinInt64 + 1} {
		for _, n := range lengths() {
			for at := range n {
				more, less := slices.Repeat([]int64{5}, n), make([]int64, n)
				more[at], less[at] = v, -v
				out = append(out, more, less)
			}
			out = append(out, slices.Repeat([]int64{v}, n), slices.Repeat([]int64{-v}, n), slices.Repeat([]int64{v, -v}, n/2))
		}
	}
	return append(out, []int64{math.MaxInt64, math.MinInt64}, []int64{math.MinInt64, math.MaxInt64})
}

// halfDown is half of a sum: the library's Div by a number above 0 leaves a rest that isn't below 0, so that it goes down.
func halfDown(sum *big.Int) int64 {
	return new(big.Int).Div(sum, big.NewInt(2)).Int64()
}

// modelParted parts a list of any numbers: differences are laid ahead of those of the level before.
func modelParted(x []int64) []int64 {
	var behind []int64
	level := slices.Clone(x)
	for len(level) > 1 {
		var means, differences []int64
		for pair := range slices.Chunk(level, 2) {
			a, b := big.NewInt(pair[0]), big.NewInt(pair[1])
			means = append(means, halfDown(new(big.Int).Add(a, b)))
			differences = append(differences, new(big.Int).Sub(b, a).Int64())
		}
		behind = append(differences, behind...)
		level = means
	}
	return append(level, behind...)
}

// modelJoined makes of a mean and a difference the pair: its sum is twice the mean, and one more where the difference is odd.
func modelJoined(c []int64) []int64 {
	level := []int64{c[0]}
	for len(level) < len(c) {
		var longer []int64
		for i, m := range level {
			d := c[len(level)+i]
			sum := 2*m + d&1
			longer = append(longer, (sum-d)/2, (sum+d)/2)
		}
		level = longer
	}
	return level
}

func forwardIs(t *testing.T, x, want []int64) {
	t.Helper()
	if c, e := Forward(x); e != api.OK || !slices.Equal(c, want) {
		t.Fatalf("Forward(%v): %v, error %d; want %v", x, c, e, want)
	}
}

func inverseIs(t *testing.T, c, want []int64) {
	t.Helper()
	if x, e := Inverse(c); e != api.OK || !slices.Equal(x, want) {
		t.Fatalf("Inverse(%v): %v, error %d; want %v", c, x, e, want)
	}
}

// P8.1: Right.

func TestBoundIsAsTold(t *testing.T) {
	if MaxValue != 16777216 {
		t.Errorf("MaxValue is %d", MaxValue)
	}
}

func TestRightBlocks(t *testing.T) {
	lists := samples(0x9e3779b97f4a7c15, 24, 3000)
	for _, n := range lengths() {
		lists = append(lists, make([]int64, n), slices.Repeat([]int64{1 << 24}, n), slices.Repeat([]int64{-(1 << 24)}, n))
	}
	for _, x := range lists {
		if !Right(x) {
			t.Fatalf("%v is a block", x)
		}
	}
}

func TestWrongBlocks(t *testing.T) {
	for _, x := range wrongLists(1 << 24) {
		if Right(x) {
			t.Errorf("%d numbers, %v.. are no block", len(x), x[:min(len(x), 32)])
		}
	}
}

// P8.1: Forward.

func TestForwardExamples(t *testing.T) {
	forwardIs(t, []int64{1, 4}, []int64{2, 3})
	forwardIs(t, []int64{4, 1}, []int64{2, -3})
	forwardIs(t, []int64{1, 4, 5, 5}, []int64{3, 3, 3, 0})
}

// One level behind the other, reckoned by hand: the means 1 3 4 1, then 2 2.
func TestForwardLevels(t *testing.T) {
	forwardIs(t, []int64{0, 2, 3, 4, 9, 0, 1, 2}, []int64{2, 0, 2, -3, 2, 1, -9, 1})
	// The differences are 1 each, then 2, 4, 8, 16 at the levels above.
	count := make([]int64, 32)
	for i := range count {
		count[i] = int64(i)
	}
	want := []int64{15, 16, 8, 8, 4, 4, 4, 4, 2, 2, 2, 2, 2, 2, 2, 2}
	forwardIs(t, count, append(want, slices.Repeat([]int64{1}, 16)...))
	forwardIs(t, count[:16], append([]int64{7, 8, 4, 4, 2, 2, 2, 2}, slices.Repeat([]int64{1}, 8)...))
}

// Half of an odd difference goes down, not towards 0: below 0 it is to be seen.
func TestForwardHalvesDown(t *testing.T) {
	forwardIs(t, []int64{0, -1}, []int64{-1, -1})
	forwardIs(t, []int64{-1, 0}, []int64{-1, 1})
	forwardIs(t, []int64{0, 1}, []int64{0, 1})
	forwardIs(t, []int64{1, 0}, []int64{0, -1})
	forwardIs(t, []int64{-4, -1}, []int64{-3, 3})
	forwardIs(t, []int64{-1, -4}, []int64{-3, -3})
}

func TestForwardEdges(t *testing.T) {
	forwardIs(t, []int64{0, 0}, []int64{0, 0})
	forwardIs(t, []int64{-(1 << 24), 1 << 24}, []int64{0, 1 << 25})
	forwardIs(t, []int64{1 << 24, -(1 << 24)}, []int64{0, -(1 << 25)})
	forwardIs(t, []int64{1<<24 - 1, 1 << 24}, []int64{1<<24 - 1, 1})
	forwardIs(t, []int64{-(1 << 24), 1 - 1<<24}, []int64{-(1 << 24), 1})
	halves := append(slices.Repeat([]int64{1 << 24}, 16), slices.Repeat([]int64{-(1 << 24)}, 16)...)
	forwardIs(t, halves, append([]int64{0, -(1 << 25)}, make([]int64, 30)...))
	turns := slices.Repeat([]int64{-(1 << 24), 1 << 24}, 16)
	forwardIs(t, turns, append(make([]int64, 16), slices.Repeat([]int64{1 << 25}, 16)...))
}

func TestForwardSmall(t *testing.T) {
	for _, x := range slices.Concat(small(2, -20, 20), small(4, -3, 4), small(8, -1, 1)) {
		forwardIs(t, x, modelParted(x))
	}
}

func TestForwardAny(t *testing.T) {
	for _, x := range samples(0xd1342543de82ef95, 24, 5000) {
		forwardIs(t, x, modelParted(x))
	}
}

func TestForwardWrong(t *testing.T) {
	for _, x := range wrongLists(1 << 24) {
		if c, e := Forward(x); len(c) != 0 || e != api.ErrArg {
			t.Errorf("%d numbers, %v..: %v, error %d", len(x), x[:min(len(x), 32)], c, e)
		}
	}
}

// P8.2: Inverse.

func TestInverseExamples(t *testing.T) {
	inverseIs(t, []int64{3, 3, 3, 0}, []int64{1, 4, 5, 5})
	inverseIs(t, []int64{2, 3}, []int64{1, 4})
	inverseIs(t, []int64{2, -3}, []int64{4, 1})
	inverseIs(t, []int64{2, 0, 2, -3, 2, 1, -9, 1}, []int64{0, 2, 3, 4, 9, 0, 1, 2})
}

func TestInverseEdges(t *testing.T) {
	inverseIs(t, []int64{0, 0}, []int64{0, 0})
	inverseIs(t, []int64{0, 1}, []int64{0, 1})
	inverseIs(t, []int64{0, -1}, []int64{1, 0})
	inverseIs(t, []int64{-1, 1}, []int64{-1, 0})
	inverseIs(t, []int64{1 << 26, 0}, []int64{1 << 26, 1 << 26})
	inverseIs(t, []int64{-(1 << 26), -(1 << 26)}, []int64{-(1 << 25), -(1<<26 + 1<<25)})
	inverseIs(t, []int64{1 << 26, 1 << 26}, []int64{1 << 25, 1<<26 + 1<<25})
	// All that can be added adds up at the last place: half of 2^26 at each of the five levels.
	x, e := Inverse(slices.Repeat([]int64{1 << 26}, 32))
	if e != api.OK || len(x) != 32 || x[31] != 1<<26+5<<25 || x[0] != 1<<26-5<<25 {
		t.Errorf("%v, error %d", x, e)
	}
}

func TestInverseSmall(t *testing.T) {
	for _, c := range slices.Concat(small(2, -20, 20), small(4, -3, 4), small(8, -1, 1)) {
		inverseIs(t, c, modelJoined(c))
	}
}

// The bounds are those of coefficients, and what is told need not be a block: Forward's rules make it c all the same.
func TestInverseAny(t *testing.T) {
	beyond := 0
	for _, c := range samples(0x94d049bb133111eb, 26, 5000) {
		inverseIs(t, c, modelJoined(c))
		x, _ := Inverse(c)
		if again := modelParted(x); !slices.Equal(again, c) {
			t.Fatalf("Inverse(%v): %v, of which the rules make %v", c, x, again)
		}
		if !Right(x) {
			beyond++
		}
	}
	if beyond < 500 {
		t.Errorf("%d are no blocks", beyond)
	}
}

func TestInverseWrong(t *testing.T) {
	for _, c := range wrongLists(1 << 26) {
		if x, e := Inverse(c); len(x) != 0 || e != api.ErrArg {
			t.Errorf("%d numbers, %v..: %v, error %d", len(c), c[:min(len(c), 32)], x, e)
		}
	}
}

// What follows.

// P8.3
func TestInverseOfForward(t *testing.T) {
	for _, x := range slices.Concat(small(2, -20, 20), small(4, -3, 4), samples(0x5851f42d4c957f2d, 24, 5000)) {
		c, e := Forward(x)
		if e != api.OK {
			t.Fatalf("Forward(%v): error %d", x, e)
		}
		inverseIs(t, c, x)
	}
}

// P8.3
func TestForwardOfInverse(t *testing.T) {
	blocks, others := 0, 0
	for _, c := range slices.Concat(small(2, -20, 20), small(4, -3, 4), samples(0x6c62272e07bb0142, 26, 5000), samples(0x41c64e6da3bc0074, 22, 2000)) {
		x, e := Inverse(c)
		if e != api.OK {
			t.Fatalf("Inverse(%v): error %d", c, e)
		}
		if Right(x) {
			blocks++
			forwardIs(t, x, c)
			continue
		}
		others++
		if _, e := Forward(x); e != api.ErrArg {
			t.Fatalf("Forward(%v): error %d", x, e)
		}
	}
	if blocks < 1000 || others < 500 {
		t.Errorf("%d blocks, %d others", blocks, others)
	}
}

// P8.4
func TestOneNumberAgainAndAgain(t *testing.T) {
	x := chance(0x2545f4914f6cdd1d)
	numbers := edges(1 << 24)
	for range 1000 {
		numbers = append(numbers, x.anyNumber(24))
	}
	for _, v := range numbers {
		for _, n := range lengths() {
			want := make([]int64, n)
			want[0] = v
			forwardIs(t, slices.Repeat([]int64{v}, n), want)
			inverseIs(t, want, slices.Repeat([]int64{v}, n))
		}
	}
}

// P8.5
func TestMeanAndDifferencesHaveBounds(t *testing.T) {
	for _, x := range slices.Concat(small(2, -20, 20), small(4, -3, 4), samples(0xda942042e4dd58b5, 24, 5000)) {
		c, e := Forward(x)
		if e != api.OK || len(c) != len(x) {
			t.Fatalf("Forward(%v): %v, error %d", x, c, e)
		}
		least, greatest := slices.Min(x), slices.Max(x)
		if c[0] < least || c[0] > greatest {
			t.Fatalf("Forward(%v): the mean is %d", x, c[0])
		}
		for _, d := range c[1:] {
			if max(d, -d) > greatest-least {
				t.Fatalf("Forward(%v): a difference is %d", x, d)
			}
		}
	}
}

// R3: what is handed in stays as it is, its spare room too, and what is answered is new memory. R4: what was done with an answer is not to be seen in the next one.

func TestListsStay(t *testing.T) {
	for _, list := range samples(0x27d4eb2f165667c5, 24, 500) {
		room := append(slices.Clone(list), 3, -3, 1<<40)
		was := slices.Clone(room)
		Right(room[:len(list)])
		_, e := Forward(room[:len(list)])
		_, f := Inverse(room[:len(list)])
		if e != api.OK || f != api.OK || !slices.Equal(room, was) {
			t.Fatalf("%v: errors %d, %d, %v", list, e, f, room)
		}
	}
}

// spoil writes over a list and its spare room.
func spoil(list []int64) {
	for i := range list[:cap(list)] {
		list[:cap(list)][i] = 77
	}
}

func TestAnswersAreNewMemory(t *testing.T) {
	for _, call := range []func([]int64) ([]int64, api.Errno){Forward, Inverse} {
		for _, list := range samples(0x85ebca77c2b2ae63, 24, 300) {
			was := slices.Clone(list)
			first, _ := call(list)
			told := slices.Clone(first)
			second, _ := call(list)
			spoil(second)
			if !slices.Equal(first, told) || !slices.Equal(list, was) {
				t.Fatalf("%v: memory is shared", was)
			}
			spoil(first)
			if third, e := call(list); e != api.OK || !slices.Equal(third, told) || !slices.Equal(list, was) {
				t.Fatalf("%v: %v, and then %v", was, told, third)
			}
		}
	}
}
