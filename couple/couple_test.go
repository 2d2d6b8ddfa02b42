package couple

import (
	"math"
	"slices"
	"testing"

	"psaltery/api"
)

// The tests hold the layer against cases reckoned by hand, and against a model that reckons the difference away from 0, or towards it, by a sign.

const (
	wide = 1 << 40 // what may be coupled
	far  = 1 << 42 // what may be parted
)

// duo is a pair of numbers.
type duo struct{ x, y int64 }

// chance is a row of numbers that do not repeat soon.
type chance uint64

func (x *chance) next() uint64 {
	*x ^= *x << 13
	*x ^= *x >> 7
	*x ^= *x << 17
	return uint64(*x)
}

// within is a number from -most to most, the sizes of all lengths.
func (x *chance) within(most int64) int64 {
	n := int64(x.next()>>3) % (most + 1)
	n >>= x.next() >> 3 % 43
	if x.next()>>3%2 == 0 {
		return -n
	}
	return n
}

// edges are numbers at which something turns: 0, and the bound that is given, among them.
func edges(most int64) []int64 {
	var out []int64
	for _, n := range []int64{0, 1, 2, 3, 5, 127, 128, 255, 256, 32767, 32768, 65535, 65536, math.MaxInt32, 1 << 31, math.MaxUint32, 1 << 32, most / 4, most/2 - 1, most / 2, most/2 + 1, most - 2, most - 1, most} {
		out = append(out, n, -n)
	}
	return out
}

// someDuos are pairs of all kinds, from -most to most: all small ones, all of the edges, and others, those of equal sizes among them.
func someDuos(most int64, x chance, n int) []duo {
	var out []duo
	for a := int64(-40); a <= 40; a++ {
		for b := int64(-40); b <= 40; b++ {
			out = append(out, duo{a, b})
		}
	}
	for _, a := range edges(most) {
		for _, b := range edges(most) {
			out = append(out, duo{a, b})
		}
	}
	for range n {
		a, b := x.within(most), x.within(most)
		out = append(out, duo{a, b}, duo{b, a}, duo{a, a}, duo{a, -a})
		if a < most {
			out = append(out, duo{a, a + 1}, duo{a + 1, a}, duo{-a, a + 1}, duo{a + 1, -a})
		}
	}
	return out
}

// beyond are numbers that are farther than most: also such as a narrower integer, or a size without its sign, would take for one that isn't.
func beyond(most int64) []int64 {
	out := []int64{math.MaxInt64, math.MinInt64, math.MaxInt64 - 1, math.MinInt64 + 1, math.MinInt64 + 5, 1 << 62, -(1 << 62), 1<<62 + 3, -(1 << 62) - 3}
	for _, n := range []int64{most + 1, most + 2, most + 5, most + 1<<32, 2*most - 1, 2 * most, 3 * most, 4*most + 5, 1 << 44, 1<<48 + 7} {
		out = append(out, n, -n)
	}
	return out
}

// way is 1 for a number above 0, else -1.
func way(n int64) int64 {
	if n > 0 {
		return 1
	}
	return -1
}

func modelCouple(p duo) duo {
	if p.x*way(p.x) > p.y*way(p.y) {
		return duo{p.x, way(p.x) * (p.x - p.y)}
	}
	return duo{p.y, way(p.y) * (p.x - p.y)}
}

func modelPart(p duo) duo {
	if p.y > 0 {
		return duo{p.x, p.x - way(p.x)*p.y}
	}
	return duo{p.x + way(p.x)*p.y, p.x}
}

func coupleIs(t *testing.T, p, want duo) {
	t.Helper()
	if m, a, e := Couple(p.x, p.y); e != api.OK || (duo{m, a}) != want {
		t.Fatalf("Couple(%d, %d): %d, %d, error %d; want %d", p.x, p.y, m, a, e, want)
	}
}

func partIs(t *testing.T, p, want duo) {
	t.Helper()
	if l, r, e := Part(p.x, p.y); e != api.OK || (duo{l, r}) != want {
		t.Fatalf("Part(%d, %d): %d, %d, error %d; want %d", p.x, p.y, l, r, e, want)
	}
}

// coupled answers what there is of a right pair.
func coupled(t *testing.T, p duo) duo {
	t.Helper()
	m, a, e := Couple(p.x, p.y)
	if e != api.OK {
		t.Fatalf("Couple(%d, %d): error %d", p.x, p.y, e)
	}
	return duo{m, a}
}

// lists are the pairs' first numbers, and their second ones.
func lists(pairs []duo) ([]int64, []int64) {
	var x, y []int64
	for _, p := range pairs {
		x, y = append(x, p.x), append(y, p.y)
	}
	return x, y
}

// turned are the pairs, each of them turned.
func turned(pairs []duo, turn func(duo) duo) []duo {
	var out []duo
	for _, p := range pairs {
		out = append(out, turn(p))
	}
	return out
}

// call is one of the calls that turn lists.
type call func(x, y []int64) ([]int64, []int64, api.Errno)

func allAre(t *testing.T, c call, pairs, want []duo) {
	t.Helper()
	x, y := lists(pairs)
	wantX, wantY := lists(want)
	first, second, e := c(x, y)
	if e != api.OK || !slices.Equal(first, wantX) || !slices.Equal(second, wantY) {
		t.Fatalf("%d pairs, %d..: %d.., %d.., error %d; want %d..", len(pairs), pairs[:min(len(pairs), 8)], first[:min(len(first), 8)], second[:min(len(second), 8)], e, want[:min(len(want), 8)])
	}
}

func allAreWrong(t *testing.T, c call, x, y []int64) {
	t.Helper()
	first, second, e := c(x, y)
	if len(first) != 0 || len(second) != 0 || e != api.ErrArg {
		t.Errorf("%d and %d numbers, %d.. and %d..: %d, %d, error %d", len(x), len(y), x[:min(len(x), 8)], y[:min(len(y), 8)], first, second, e)
	}
}

// P15.1: Couple.

func TestMost(t *testing.T) {
	if Most != 1099511627776 {
		t.Errorf("it is %d", int64(Most))
	}
}

func TestCoupleByHand(t *testing.T) {
	for _, c := range []struct{ p, want duo }{
		{duo{3, 2}, duo{3, 1}}, {duo{2, 3}, duo{3, -1}}, {duo{-3, 2}, duo{-3, 5}}, {duo{3, -2}, duo{3, 5}},
		{duo{3, -3}, duo{-3, -6}}, {duo{-3, 3}, duo{3, -6}}, {duo{0, 0}, duo{0, 0}},
		{duo{2, -3}, duo{-3, -5}}, {duo{-2, 3}, duo{3, -5}}, {duo{-3, -2}, duo{-3, 1}}, {duo{-2, -3}, duo{-3, -1}},
		{duo{3, 3}, duo{3, 0}}, {duo{-3, -3}, duo{-3, 0}},
		{duo{3, 0}, duo{3, 3}}, {duo{-3, 0}, duo{-3, 3}}, {duo{0, 3}, duo{3, -3}}, {duo{0, -3}, duo{-3, -3}},
		{duo{wide, wide}, duo{wide, 0}}, {duo{wide, -wide}, duo{-wide, -2199023255552}}, {duo{-wide, wide}, duo{wide, -2199023255552}}, {duo{-wide, -wide}, duo{-wide, 0}},
		{duo{-wide, wide - 1}, duo{-wide, 2199023255551}}, {duo{wide, 1 - wide}, duo{wide, 2199023255551}},
	} {
		coupleIs(t, c.p, c.want)
	}
}

func TestCoupleAny(t *testing.T) {
	for _, p := range someDuos(wide, 0x9e3779b97f4a7c15, 5000) {
		coupleIs(t, p, modelCouple(p))
	}
}

func TestCoupleBeyond(t *testing.T) {
	for _, n := range beyond(wide) {
		for _, p := range []duo{{n, 0}, {0, n}, {n, wide}, {wide, n}, {-wide, n}, {n, -wide}, {n, n}, {n, -n}, {n, math.MinInt64}, {math.MinInt64, n}, {7, n}, {n, -7}} {
			if m, a, e := Couple(p.x, p.y); m != 0 || a != 0 || e != api.ErrArg {
				t.Errorf("Couple(%d, %d): %d, %d, error %d", p.x, p.y, m, a, e)
			}
		}
	}
}

// P15.1: Part.

func TestPartByHand(t *testing.T) {
	for _, c := range []struct{ p, want duo }{
		{duo{3, 1}, duo{3, 2}}, {duo{3, -1}, duo{2, 3}}, {duo{-3, 5}, duo{-3, 2}}, {duo{3, 5}, duo{3, -2}},
		{duo{-3, -6}, duo{3, -3}}, {duo{3, -6}, duo{-3, 3}}, {duo{0, 0}, duo{0, 0}},
		{duo{3, 0}, duo{3, 3}}, {duo{-3, 0}, duo{-3, -3}}, {duo{-3, 1}, duo{-3, -2}}, {duo{-3, -1}, duo{-2, -3}},
	} {
		partIs(t, c.p, c.want)
	}
}

// What no pair is coupled to is parted too.
func TestPartOfOthers(t *testing.T) {
	for _, c := range []struct{ p, want duo }{
		{duo{0, 4}, duo{0, 4}}, {duo{0, -4}, duo{4, 0}}, {duo{1, 9}, duo{1, -8}}, {duo{1, -9}, duo{-8, 1}}, {duo{-1, 9}, duo{-1, 8}}, {duo{-1, -9}, duo{8, -1}},
		{duo{far, far}, duo{far, 0}}, {duo{far, -far}, duo{0, far}}, {duo{-far, far}, duo{-far, 0}}, {duo{-far, -far}, duo{0, -far}},
		{duo{1, -far}, duo{1 - far, 1}}, {duo{-1, far}, duo{-1, far - 1}}, {duo{far, 1}, duo{far, far - 1}}, {duo{-far, 0}, duo{-far, -far}},
		{duo{0, far}, duo{0, far}}, {duo{0, -far}, duo{far, 0}},
	} {
		partIs(t, c.p, c.want)
	}
}

func TestPartAny(t *testing.T) {
	for _, p := range someDuos(far, 0xd1342543de82ef95, 5000) {
		partIs(t, p, modelPart(p))
	}
}

func TestPartBeyond(t *testing.T) {
	for _, n := range beyond(far) {
		for _, p := range []duo{{n, 0}, {0, n}, {n, far}, {far, n}, {-far, n}, {n, -far}, {n, n}, {n, -n}, {n, math.MinInt64}, {math.MinInt64, n}, {7, n}, {n, -7}} {
			if l, r, e := Part(p.x, p.y); l != 0 || r != 0 || e != api.ErrArg {
				t.Errorf("Part(%d, %d): %d, %d, error %d", p.x, p.y, l, r, e)
			}
		}
	}
}

// P15.2

func TestAllByHand(t *testing.T) {
	pairs := []duo{{3, 2}, {2, 3}, {-3, 2}, {3, -2}, {3, -3}, {-3, 3}, {0, 0}}
	want := []duo{{3, 1}, {3, -1}, {-3, 5}, {3, 5}, {-3, -6}, {3, -6}, {0, 0}}
	allAre(t, CoupleAll, pairs, want)
	allAre(t, PartAll, want, pairs)
	allAre(t, PartAll, []duo{{far, -far}, {0, 4}}, []duo{{0, far}, {0, 4}})
}

func TestAllOfNone(t *testing.T) {
	for _, c := range []call{CoupleAll, PartAll} {
		allAre(t, c, nil, nil)
		for _, x := range [][]int64{nil, {}, make([]int64, 0, 5)} {
			for _, y := range [][]int64{nil, {}, make([]int64, 0, 5)} {
				if first, second, e := c(x, y); len(first) != 0 || len(second) != 0 || e != api.OK {
					t.Errorf("no pairs: %d, %d, error %d", first, second, e)
				}
			}
		}
	}
}

func TestAllAny(t *testing.T) {
	near, others := someDuos(wide, 0x94d049bb133111eb, 3000), someDuos(far, 0xda942042e4dd58b5, 3000)
	allAre(t, CoupleAll, near, turned(near, modelCouple))
	allAre(t, PartAll, others, turned(others, modelPart))
	for n := range 40 {
		allAre(t, CoupleAll, near[5*n:6*n], turned(near[5*n:6*n], modelCouple))
		allAre(t, PartAll, others[5*n:6*n], turned(others[5*n:6*n], modelPart))
	}
}

func TestAllOfOtherLengths(t *testing.T) {
	lengths := []int{0, 1, 2, 3, 15, 16, 17, 255, 256, 4000, 65536, 65537}
	for _, c := range []call{CoupleAll, PartAll} {
		for _, n := range lengths {
			for _, m := range lengths {
				if n != m {
					allAreWrong(t, c, make([]int64, n), make([]int64, m))
				}
			}
		}
		allAreWrong(t, c, nil, []int64{1})
		allAreWrong(t, c, []int64{1}, nil)
		// Not even where the spare room would make it as long.
		allAreWrong(t, c, make([]int64, 5, 16), make([]int64, 6, 16))
		allAreWrong(t, c, make([]int64, 6, 16), make([]int64, 5, 16))
	}
}

// One pair that is wrong is told, wherever it stands, and no other pair is answered.
func TestAllWithOneBeyond(t *testing.T) {
	for most, c := range map[int64]call{wide: CoupleAll, far: PartAll} {
		for _, n := range beyond(most) {
			for length := 1; length <= 17; length++ {
				for at := range length {
					x, y := slices.Repeat([]int64{most}, length), slices.Repeat([]int64{-most}, length)
					x[at] = n
					allAreWrong(t, c, x, y)
					allAreWrong(t, c, y, x)
				}
			}
		}
		allAreWrong(t, c, []int64{most + 1}, nil)
		allAreWrong(t, c, slices.Repeat([]int64{most + 1}, 9), slices.Repeat([]int64{-most - 1}, 9))
	}
}

// P15.3

func TestPartOfCouple(t *testing.T) {
	pairs := someDuos(wide, 0x2545f4914f6cdd1d, 10000)
	for _, p := range pairs {
		partIs(t, coupled(t, p), p)
	}
	l, r := lists(pairs)
	m, a, e := CoupleAll(l, r)
	if e != api.OK {
		t.Fatalf("error %d", e)
	}
	left, right, e := PartAll(m, a)
	if e != api.OK || !slices.Equal(left, l) || !slices.Equal(right, r) {
		t.Fatalf("the pairs are others, or error %d", e)
	}
}

// P15.4

// sizeOf is a number without its sign.
func sizeOf(n int64) int64 {
	return n * way(n)
}

// The bound is met, so that the test has something to hold.
func TestCoupledIsGreaterInSize(t *testing.T) {
	met := 0
	for _, p := range someDuos(wide, 0x6c62272e07bb0142, 5000) {
		c := coupled(t, p)
		if c.x != p.x && c.x != p.y || sizeOf(c.x) < sizeOf(p.x) || sizeOf(c.x) < sizeOf(p.y) {
			t.Fatalf("%d: %d is not the greater one", p, c.x)
		}
		both := sizeOf(p.x) + sizeOf(p.y)
		if sizeOf(c.y) > both {
			t.Fatalf("%d: %d is too far from 0", p, c.y)
		}
		if sizeOf(c.y) == both {
			met++
		}
	}
	if met < 1000 {
		t.Errorf("the bound is met %d times", met)
	}
}

func TestNoDifferenceOfTheSame(t *testing.T) {
	for _, p := range someDuos(wide, 0x5851f42d4c957f2d, 2000) {
		for _, n := range []int64{p.x, p.y} {
			coupleIs(t, duo{n, n}, duo{n, 0})
		}
		if c := coupled(t, p); c.y == 0 && p.x != p.y {
			t.Fatalf("%d: no difference", p)
		}
	}
}

// R3: what is handed in stays as it is, its spare room too, and what is answered is new memory, of two lists that share none. R4: what was done with an answer is not to be seen in the next one.

func TestArgumentsStay(t *testing.T) {
	pairs := someDuos(wide, 0x165667b19e3779f9, 100)[:500]
	for _, c := range []call{CoupleAll, PartAll} {
		x, y := lists(pairs)
		wasX, wasY := slices.Clone(x), slices.Clone(y)
		c(x[:400], y[:400])
		c(x[:400], x[:400])
		c(x[:400], y[:399])
		if !slices.Equal(x, wasX) || !slices.Equal(y, wasY) {
			t.Fatal("the arguments are changed")
		}
	}
}

// spoil writes over a list and its spare room.
func spoil(list []int64) {
	for i := range list[:cap(list)] {
		list[:cap(list)][i] = 77
	}
}

func TestAnswersAreNewMemory(t *testing.T) {
	for _, n := range []int{1, 2, 3, 5, 16, 17, 500} {
		pairs := someDuos(wide, 0x85ebca77c2b2ae63, 100)[:n]
		for _, c := range []struct {
			call call
			want []duo
		}{{CoupleAll, turned(pairs, modelCouple)}, {PartAll, turned(pairs, modelPart)}} {
			x, y := lists(pairs)
			wantX, wantY := lists(c.want)
			first, second, _ := c.call(x, y)
			third, fourth, _ := c.call(x, y)
			spoil(third)
			if !slices.Equal(fourth, wantY) {
				t.Fatalf("%d pairs: both lists of an answer share memory", n)
			}
			spoil(fourth)
			if !slices.Equal(first, wantX) || !slices.Equal(second, wantY) {
				t.Fatalf("%d pairs: two answers share memory", n)
			}
			spoil(second)
			if !slices.Equal(first, wantX) {
				t.Fatalf("%d pairs: both lists of an answer share memory", n)
			}
			spoil(first)
			if wasX, wasY := lists(pairs); !slices.Equal(x, wasX) || !slices.Equal(y, wasY) {
				t.Fatalf("%d pairs: memory is shared with an argument", n)
			}
			allAre(t, c.call, pairs, c.want)
		}
	}
}
