package floor

import (
	"math"
	"math/big"
	"slices"
	"testing"

	"psaltery/api"
)

// The tests hold the layer against a model that counts its steps, with the library's long numbers, and against cases reckoned by hand.

// chance is a row of numbers that do not repeat soon.
type chance uint64

func (x *chance) next() uint64 {
	*x ^= *x << 13
	*x ^= *x >> 7
	*x ^= *x << 17
	return uint64(*x)
}

func (x *chance) below(n int) int {
	return int(x.next() >> 3 % uint64(n))
}

// anyGains are so many gains of any kind: some at a bound, some that are the same.
func (x *chance) anyGains(count int) []int {
	l := make([]int, count)
	one := x.below(45)
	for i := range l {
		switch x.below(6) {
		case 0:
			l[i] = 44 * x.below(2)
		case 1:
			l[i] = one
		default:
			l[i] = x.below(45)
		}
	}
	return l
}

// somePosts are posts of all kinds, each gain next to each other one on all pieces of the line among them.
func somePosts(x chance, n int) [][]int {
	var out [][]int
	for y := range 45 {
		for z := range 45 {
			out = append(out, []int{y, z, y, z, y, z}, []int{z, y, z, y, z, y})
		}
		for at := range 6 {
			l := make([]int, 6)
			l[at] = y
			out = append(out, l)
		}
	}
	for range n {
		out = append(out, x.anyGains(6))
	}
	return out
}

// someGains are gains of five bands: each gain in all bands, alone in each of them, and others.
func someGains(x chance, n int) [][]int {
	var out [][]int
	for g := range 45 {
		out = append(out, slices.Repeat([]int{g}, 5))
		for at := range 5 {
			l := make([]int, 5)
			l[at] = g
			out = append(out, l)
		}
	}
	for range n {
		out = append(out, x.anyGains(5))
	}
	return out
}

// notGains are numbers that are no gains: also such as a narrower integer would take for one.
func notGains() []int {
	return []int{-1, -2, -44, -45, -128, -256, -256 + 5, 45, 46, 47, 64, 128, 255, 256, 256 + 5, 65536 + 5, 1 << 32, 1<<32 + 5, -(1 << 32) + 5, 1 << 62, math.MaxInt, math.MaxInt - 1, math.MinInt, math.MinInt + 5}
}

// wrongLengths are how many numbers there may not be, where right ones are told.
func wrongLengths(right int) []int {
	all := []int{31, 32, 44, 45, 64, 255, 256, 256 + 5, 256 + 6, 4000, 65536, 65536 + 5, 65536 + 6}
	for n := range 26 {
		all = append(all, n)
	}
	return slices.DeleteFunc(all, func(n int) bool { return n == right })
}

// modelPlaces is, for each place, the post ahead of it (or at it).
var modelPlaces = [16]int{0, 1, 2, 2, 3, 3, 3, 3, 4, 4, 4, 4, 4, 4, 4, 5}

// modelLine counts, at each place, the steps that the line has gone from the post ahead.
func modelLine(l []int) []int {
	var line []int
	for i, p := range modelPlaces {
		x, w := slices.Index(modelPlaces[:], p), slices.Index(modelPlaces[:], p+1)
		if w < 0 {
			line = append(line, l[p])
			continue
		}
		size, way := l[p+1]-l[p], 1
		if size < 0 {
			size, way = -size, -1
		}
		steps := 0
		for (steps+1)*(w-x) <= size*(i-x) {
			steps++
		}
		line = append(line, l[p]+way*steps)
	}
	return line
}

func modelValue(g int) int64 {
	if g == 0 {
		return 0
	}
	power := new(big.Int).Exp(big.NewInt(2), big.NewInt(int64(g-1)), nil)
	return power.Sqrt(power).Int64()
}

func modelFloor(l []int) []int64 {
	var out []int64
	for _, g := range modelLine(l) {
		v := modelValue(g)
		if v == 0 {
			v = 1
		}
		out = append(out, v)
	}
	return out
}

func modelFit(g []int, quality int) []int {
	out := make([]int, 6)
	for p, of := range []int{0, 1, 2, 3, 4, 4} {
		for step := 13 - quality; quality > 0 && step < g[of]; step++ {
			out[p]++
		}
	}
	return out
}

func lineIs(t *testing.T, l, want []int) {
	t.Helper()
	if x, e := Line(l); e != api.OK || !slices.Equal(x, want) {
		t.Fatalf("%v: %v, error %d; want %v", l, x, e, want)
	}
}

func floorIs(t *testing.T, l []int, want []int64) {
	t.Helper()
	if x, e := Floor(l); e != api.OK || !slices.Equal(x, want) {
		t.Fatalf("%v: %v, error %d; want %v", l, x, e, want)
	}
}

func fitIs(t *testing.T, g []int, quality int, want []int) {
	t.Helper()
	if l, e := Fit(g, quality); e != api.OK || !slices.Equal(l, want) {
		t.Fatalf("%v with quality %d: %v, error %d; want %v", g, quality, l, e, want)
	}
}

// lineOf, floorOf and fitted answer what there is of right arguments.

func lineOf(t *testing.T, l []int) []int {
	t.Helper()
	x, e := Line(l)
	if e != api.OK || len(x) != 16 {
		t.Fatalf("%v: %v, error %d", l, x, e)
	}
	return x
}

func floorOf(t *testing.T, l []int) []int64 {
	t.Helper()
	x, e := Floor(l)
	if e != api.OK || len(x) != 16 {
		t.Fatalf("%v: %v, error %d", l, x, e)
	}
	return x
}

func fitted(t *testing.T, g []int, quality int) []int {
	t.Helper()
	l, e := Fit(g, quality)
	if e != api.OK || len(l) != 6 {
		t.Fatalf("%v with quality %d: %v, error %d", g, quality, l, e)
	}
	return l
}

// P14.1: At.

func TestAt(t *testing.T) {
	if Posts != 6 {
		t.Errorf("there are %d", Posts)
	}
	for p, want := range []int{0, 1, 2, 4, 8, 15} {
		if At(p) != want {
			t.Errorf("%d: %d; want %d", p, At(p), want)
		}
	}
}

func TestNoPost(t *testing.T) {
	wrong := []int{-1, -2, -5, -6, -8, -16, -64, 6, 7, 8, 9, 15, 16, 64, 128, 256, 256 + 3, 65536 + 3, 1 << 32, 1<<32 + 3, -(1 << 32) + 3, 1 << 62, math.MaxInt, math.MinInt, math.MinInt + 3}
	for _, p := range wrong {
		if At(p) != -1 {
			t.Errorf("%d is no post: %d", p, At(p))
		}
	}
	for p := 6; p < 1000; p++ {
		if At(p) != -1 || At(-p) != -1 {
			t.Errorf("%d, or its opposite: %d, %d", p, At(p), At(-p))
		}
	}
}

// P14.1: Right, and what Line and Floor tell of others.

func postsAreWrong(t *testing.T, l []int) {
	t.Helper()
	told := l[:min(len(l), 20)]
	if Right(l) {
		t.Errorf("%d numbers, %v..: right", len(l), told)
	}
	if x, e := Line(l); len(x) != 0 || e != api.ErrArg {
		t.Errorf("Line of %d numbers, %v..: %v, error %d", len(l), told, x, e)
	}
	if x, e := Floor(l); len(x) != 0 || e != api.ErrArg {
		t.Errorf("Floor of %d numbers, %v..: %v, error %d", len(l), told, x, e)
	}
}

func TestRight(t *testing.T) {
	for _, l := range somePosts(0x9e3779b97f4a7c15, 2000) {
		if !Right(l) {
			t.Errorf("%v: not right", l)
		}
	}
}

func TestWrongPosts(t *testing.T) {
	postsAreWrong(t, nil)
	for _, n := range wrongLengths(6) {
		postsAreWrong(t, make([]int, n))
		postsAreWrong(t, slices.Repeat([]int{7}, n))
		postsAreWrong(t, slices.Repeat([]int{44}, n))
	}
	// Not even where the spare room would make it long enough.
	postsAreWrong(t, make([]int, 0, 6))
	postsAreWrong(t, make([]int, 5, 16))
	for _, v := range notGains() {
		postsAreWrong(t, slices.Repeat([]int{v}, 6))
		for at := range 6 {
			l := []int{0, 44, 3, 20, 1, 43}
			l[at] = v
			postsAreWrong(t, l)
		}
	}
	postsAreWrong(t, []int{math.MaxInt, math.MinInt, math.MaxInt, math.MinInt, math.MaxInt, math.MinInt})
}

// P14.1: Line.

func TestLineByHand(t *testing.T) {
	lineIs(t, []int{0, 0, 0, 4, 8, 1}, []int{0, 0, 0, 2, 4, 5, 6, 7, 8, 7, 6, 5, 4, 3, 2, 1})
	lineIs(t, make([]int, 6), make([]int, 16))
	lineIs(t, slices.Repeat([]int{44}, 6), slices.Repeat([]int{44}, 16))
	lineIs(t, []int{5, 17, 3, 3, 3, 3}, []int{5, 17, 3, 3, 3, 3, 3, 3, 3, 3, 3, 3, 3, 3, 3, 3})
	lineIs(t, []int{1, 2, 3, 4, 5, 6}, []int{1, 2, 3, 3, 4, 4, 4, 4, 5, 5, 5, 5, 5, 5, 5, 6})
}

// A piece that falls is rounded upwards, as what it falls by is rounded towards 0.
func TestLineIsRoundedTowardsItsPost(t *testing.T) {
	lineIs(t, []int{6, 5, 4, 3, 2, 1}, []int{6, 5, 4, 4, 3, 3, 3, 3, 2, 2, 2, 2, 2, 2, 2, 1})
	lineIs(t, []int{0, 0, 10, 9, 3, 13}, []int{0, 0, 10, 10, 9, 8, 6, 5, 3, 4, 5, 7, 8, 10, 11, 13})
	lineIs(t, []int{0, 44, 0, 43, 0, 44}, []int{0, 44, 0, 21, 43, 33, 22, 11, 0, 6, 12, 18, 25, 31, 37, 44})
	lineIs(t, []int{44, 0, 43, 0, 44, 0}, []int{44, 0, 43, 22, 0, 11, 22, 33, 44, 38, 32, 26, 19, 13, 7, 0})
}

func TestLineAny(t *testing.T) {
	for _, l := range somePosts(0xd1342543de82ef95, 5000) {
		lineIs(t, l, modelLine(l))
	}
}

// P14.1: Floor.

func TestFloorByHand(t *testing.T) {
	floorIs(t, []int{0, 0, 0, 4, 8, 1}, []int64{1, 1, 1, 1, 2, 4, 5, 8, 11, 8, 5, 4, 2, 2, 1, 1})
	floorIs(t, make([]int, 6), slices.Repeat([]int64{1}, 16))
	floorIs(t, slices.Repeat([]int{1}, 6), slices.Repeat([]int64{1}, 16))
	floorIs(t, slices.Repeat([]int{10}, 6), slices.Repeat([]int64{22}, 16))
	floorIs(t, slices.Repeat([]int{44}, 6), slices.Repeat([]int64{2965820}, 16))
	floorIs(t, []int{41, 0, 43, 42, 44, 44}, []int64{1 << 20, 1, 1 << 21, 1 << 21, 1482910, 1482910, 1 << 21, 1 << 21, 2965820, 2965820, 2965820, 2965820, 2965820, 2965820, 2965820, 2965820})
}

func TestFloorAny(t *testing.T) {
	for _, l := range somePosts(0x94d049bb133111eb, 5000) {
		floorIs(t, l, modelFloor(l))
	}
}

// P14.2: Fit.

func TestFitByHand(t *testing.T) {
	fitIs(t, []int{20, 20, 20, 20, 20}, 3, []int{10, 10, 10, 10, 10, 10})
	fitIs(t, []int{20, 20, 20, 20, 44}, 3, []int{10, 10, 10, 10, 34, 34})
	fitIs(t, []int{11, 12, 13, 14, 15}, 1, []int{0, 0, 1, 2, 3, 3})
	fitIs(t, []int{0, 1, 2, 43, 44}, 12, []int{0, 0, 1, 42, 43, 43})
	fitIs(t, []int{44, 43, 2, 1, 0}, 12, []int{43, 42, 1, 0, 0, 0})
	fitIs(t, []int{44, 30, 8, 7, 6}, 6, []int{37, 23, 1, 0, 0, 0})
}

func TestFitOfNoQuality(t *testing.T) {
	for _, g := range someGains(0xda942042e4dd58b5, 500) {
		fitIs(t, g, 0, []int{0, 0, 0, 0, 0, 0})
	}
}

func TestFitAny(t *testing.T) {
	for _, g := range someGains(0x2545f4914f6cdd1d, 1000) {
		for quality := range 13 {
			fitIs(t, g, quality, modelFit(g, quality))
		}
	}
}

func fitIsWrong(t *testing.T, g []int, quality int) {
	t.Helper()
	if l, e := Fit(g, quality); len(l) != 0 || e != api.ErrArg {
		t.Errorf("%d numbers, %v.. with quality %d: %v, error %d", len(g), g[:min(len(g), 16)], quality, l, e)
	}
}

// With no quality the gains aren't heard, but are looked at.
func TestFitOfWrongGains(t *testing.T) {
	for _, quality := range []int{0, 1, 12} {
		fitIsWrong(t, nil, quality)
		for _, n := range wrongLengths(5) {
			fitIsWrong(t, make([]int, n), quality)
			fitIsWrong(t, slices.Repeat([]int{20}, n), quality)
		}
		fitIsWrong(t, make([]int, 0, 5), quality)
		fitIsWrong(t, make([]int, 4, 16), quality)
		for _, v := range notGains() {
			fitIsWrong(t, slices.Repeat([]int{v}, 5), quality)
			for at := range 5 {
				g := []int{0, 44, 20, 1, 43}
				g[at] = v
				fitIsWrong(t, g, quality)
			}
		}
	}
}

func TestFitOfWrongQuality(t *testing.T) {
	wrong := []int{-1, -2, -12, -13, -64, -256, 13, 14, 15, 16, 44, 64, 128, 256, 256 + 3, 65536 + 3, 1 << 32, 1<<32 + 3, -(1 << 32) + 3, 1 << 62, math.MaxInt, math.MinInt, math.MinInt + 3}
	for _, quality := range wrong {
		fitIsWrong(t, []int{20, 20, 20, 20, 20}, quality)
		fitIsWrong(t, []int{44, 44, 44, 44, 44}, quality)
		fitIsWrong(t, []int{0, 0, 0, 0, 0}, quality)
		fitIsWrong(t, []int{0, 0, 45, 0, 0}, quality)
		fitIsWrong(t, nil, quality)
	}
}

// What follows.

// P14.3: each gain next to each other one, on each piece of the line, is among the posts.
func TestLineGoesThroughPosts(t *testing.T) {
	between := 0
	for _, l := range somePosts(0x5851f42d4c957f2d, 3000) {
		x := lineOf(t, l)
		for p, g := range l {
			if x[At(p)] != g {
				t.Fatalf("%v: %v: not through post %d", l, x, p)
			}
		}
		for p := range 5 {
			low, high := min(l[p], l[p+1]), max(l[p], l[p+1])
			for i := At(p); i <= At(p+1); i++ {
				if x[i] < low || x[i] > high {
					t.Fatalf("%v: %v: beyond its posts at %d", l, x, i)
				}
				if x[i] > low && x[i] < high {
					between++
				}
			}
		}
	}
	if between < 1000 {
		t.Errorf("%d are between their posts", between)
	}
}

// P14.4: the bounds are met, so that the test has something to hold.
func TestFloorHasBounds(t *testing.T) {
	for _, l := range somePosts(0x6c62272e07bb0142, 3000) {
		x := floorOf(t, l)
		bound := max(modelValue(slices.Max(l)), 1)
		for i, v := range x {
			if v < 1 || v > bound {
				t.Fatalf("%v: %d at %d, the bound is %d", l, v, i, bound)
			}
		}
		if !slices.Contains(x, bound) {
			t.Fatalf("%v: %v: the bound %d is not met", l, x, bound)
		}
	}
}

// P14.5
func TestFloorOfNoQualityIs1(t *testing.T) {
	for _, g := range someGains(0x27d4eb2f165667c5, 1000) {
		floorIs(t, fitted(t, g, 0), slices.Repeat([]int64{1}, 16))
	}
}

// P14.5
func TestMoreQualityHasNoLessPosts(t *testing.T) {
	more := 0
	for _, g := range someGains(0xff51afd7ed558ccd, 1000) {
		was := fitted(t, g, 0)
		for quality := 1; quality <= 12; quality++ {
			is := fitted(t, g, quality)
			for p := range is {
				if is[p] < was[p] {
					t.Fatalf("%v: %v, and with quality %d %v", g, was, quality, is)
				}
				if is[p] > was[p] {
					more++
				}
			}
			was = is
		}
	}
	if more < 1000 {
		t.Errorf("%d posts are greater", more)
	}
}

// What is fitted are posts.
func TestFittedAreRight(t *testing.T) {
	for _, g := range someGains(0xc4ceb9fe1a85ec53, 1000) {
		for quality := range 13 {
			if l := fitted(t, g, quality); !Right(l) {
				t.Fatalf("%v with quality %d: %v", g, quality, l)
			}
		}
	}
}

// R3: what is handed in stays as it is, its spare room too, and what is answered is new memory. R4: what was done with an answer is not to be seen in the next one.

func TestArgumentsStay(t *testing.T) {
	for _, l := range somePosts(0x165667b19e3779f9, 300) {
		room := append(slices.Clone(l), 3, -3, 77)
		was := slices.Clone(room)
		Right(room[:6])
		lineOf(t, room[:6])
		floorOf(t, room[:6])
		fitted(t, room[:5], 0)
		fitted(t, room[1:6], 7)
		if !slices.Equal(room, was) {
			t.Fatalf("%v is now %v", was, room)
		}
	}
}

// spoil writes over a list and its spare room.
func spoil[T int | int64](list []T) {
	for i := range list[:cap(list)] {
		list[:cap(list)][i] = 77
	}
}

func TestAnswersAreNewMemory(t *testing.T) {
	for _, l := range somePosts(0x85ebca77c2b2ae63, 300) {
		was := slices.Clone(l)
		first, second := lineOf(t, l), lineOf(t, l)
		spoil(second)
		low, lower := floorOf(t, l), floorOf(t, l)
		spoil(lower)
		if !slices.Equal(first, modelLine(was)) || !slices.Equal(low, modelFloor(was)) || !slices.Equal(l, was) {
			t.Fatalf("%v: memory is shared", was)
		}
		spoil(first)
		spoil(low)
		lineIs(t, l, modelLine(was))
		floorIs(t, l, modelFloor(was))
	}
}

func TestFittedAreNewMemory(t *testing.T) {
	for _, g := range someGains(0x9fb21c651e98df25, 100) {
		was := slices.Clone(g)
		for quality := range 13 {
			first, second := fitted(t, g, quality), fitted(t, g, quality)
			spoil(second)
			if !slices.Equal(first, modelFit(was, quality)) || !slices.Equal(g, was) {
				t.Fatalf("%v with quality %d: memory is shared", was, quality)
			}
			spoil(first)
			fitIs(t, g, quality, modelFit(was, quality))
		}
	}
}
