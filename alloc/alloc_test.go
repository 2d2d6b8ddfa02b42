package alloc

import (
	"fmt"
	"math"
	"math/big"
	"slices"
	"testing"

	"psaltery/api"
)

// The tests hold the layer against a model with costs made of binomials and worths held against one another as products, and against cases reckoned by hand.

// chance is a row of numbers that do not repeat soon.
type chance uint64

func (x *chance) next() uint64 {
	*x ^= *x << 13
	*x ^= *x >> 7
	*x ^= *x << 17
	return uint64(*x)
}

func (x *chance) below(n int) int {
	return int(x.next() >> 11 % uint64(n))
}

// anyGains are gains of any kind: noughts, edges, and many that are near one another, so that bands take turns.
func (x *chance) anyGains() []int {
	g := make([]int, 5)
	base := x.below(45)
	for i := range g {
		switch x.below(8) {
		case 0:
			g[i] = 0
		case 1:
			g[i] = x.below(45)
		case 2:
			g[i] = 44 - x.below(2)
		case 3:
			g[i] = base
		default:
			g[i] = min(max(base+x.below(7)-3, 0), 44)
		}
	}
	return g
}

// shape is one of packets.
type shape struct{ bytes, chans int }

// tightShapes are right ones with so little room that not all bands have all pulses.
func tightShapes() []shape {
	var out []shape
	for i := range 7 {
		out = append(out, shape{11 + i, 1}, shape{17 + i, 2})
	}
	return out
}

// allShapes are all right ones.
func allShapes() []shape {
	var out []shape
	for bytes := 11; bytes <= 60; bytes++ {
		out = append(out, shape{bytes, 1})
	}
	for bytes := 17; bytes <= 60; bytes++ {
		out = append(out, shape{bytes, 2})
	}
	return out
}

// wrongShapes are none: also such as a narrower integer would take for right.
func wrongShapes() []shape {
	var out []shape
	far := []int{-1, 0, 61, 62, 100, 255, 256 + 20, 65536 + 20, 1 << 32, 1<<32 + 20, -(1 << 32) + 20, 1 << 62, math.MaxInt, math.MinInt, math.MinInt + 20, math.MaxInt/8 + 20, 1<<61 + 20, 1<<60 + 20}
	for _, bytes := range far {
		out = append(out, shape{bytes, 1}, shape{bytes, 2})
	}
	for bytes := range 17 {
		if bytes < 11 {
			out = append(out, shape{bytes, 1})
		}
		out = append(out, shape{bytes, 2})
	}
	for _, chans := range []int{0, -1, -2, 3, 4, 5, 8, 256, 256 + 1, 256 + 2, 65536 + 1, 1<<32 + 1, 1<<32 + 2, -(1 << 32) + 1, 1 << 62, math.MaxInt, math.MinInt, math.MinInt + 1} {
		for _, bytes := range []int{0, 11, 17, 20, 60, 61, chans} {
			out = append(out, shape{bytes, chans})
		}
	}
	return out
}

// wrongGains are lists that are no gains.
func wrongGains() [][]int {
	out := [][]int{nil, {}, make([]int, 0, 5), make([]int, 4, 16), make([]int, 256+5)}
	for n := range 12 {
		if n != 5 {
			out = append(out, slices.Repeat([]int{7}, n))
		}
	}
	for _, v := range []int{-1, -44, 45, 64, 255, 256 + 7, -256 + 7, 65536 + 7, 1<<32 + 7, 1 << 61, math.MaxInt, math.MinInt, math.MinInt + 7} {
		for at := range 5 {
			g := []int{7, 0, 44, 8, 9}
			g[at] = v
			out = append(out, g)
		}
	}
	return out
}

var (
	modelWidth = [5]int{1, 1, 2, 4, 8}
	modelMost  = [5]int{1, 1, 12, 12, 12}
	modelCost  = makeModelCost()
)

// makeModelCost: a vector with pulses at j of the n places, each with either sign, is one of as many as there are ways to choose these, and to part the pulses among them.
func makeModelCost() [5][13]int {
	var out [5][13]int
	for b, n := range modelWidth {
		for k := 1; k <= 12; k++ {
			count := new(big.Int)
			for j := 1; j <= min(n, k); j++ {
				places := new(big.Int).Binomial(int64(n), int64(j))
				parts := new(big.Int).Binomial(int64(k-1), int64(j-1))
				ways := places.Mul(places, parts)
				count.Add(count, ways.Lsh(ways, uint(j)))
			}
			for new(big.Int).Lsh(big.NewInt(1), uint(out[b][k])).Cmp(count) < 0 {
				out[b][k]++
			}
		}
	}
	return out
}

func modelRoom(s shape) int {
	if s.chans == 1 {
		return 8*s.bytes - 41 - 45
	}
	return (8*s.bytes - 41 - 45 - 45) / 2
}

// modelMore tells whether a band may have one pulse more.
func modelMore(b, gain, pulses, left int) bool {
	if gain == 0 || pulses == modelMost[b] {
		return false
	}
	return modelCost[b][pulses+1] <= left+modelCost[b][pulses]
}

// modelPulses answers a channel's pulses and what is left of the room.
func modelPulses(g []int, room int) ([]int, int) {
	k := make([]int, 5)
	for {
		best := -1
		for b, w := range modelWidth {
			if !modelMore(b, g[b], k[b], room) {
				continue
			}
			// (8 * gain - 16 * pulses / width), both worths times both widths.
			if best < 0 || (8*g[b]*w-16*k[b])*modelWidth[best] > (8*g[best]*modelWidth[best]-16*k[best])*w {
				best = b
			}
		}
		if best < 0 {
			return k, room
		}
		room -= modelCost[best][k[best]+1] - modelCost[best][k[best]]
		k[best]++
	}
}

func same(a, b [][]int) bool {
	return slices.EqualFunc(a, b, slices.Equal[[]int])
}

// pulsesOf answers what must be answered without an error.
func pulsesOf(t *testing.T, s shape, g ...[]int) [][]int {
	t.Helper()
	k, e := Pulses(s.bytes, s.chans, g)
	if e != api.OK || len(k) != s.chans {
		t.Fatalf("%v, gains %v: %v, error %d", s, g, k, e)
	}
	for _, one := range k {
		if len(one) != 5 {
			t.Fatalf("%v, gains %v: %v", s, g, k)
		}
	}
	return k
}

// someOf calls back with gains for each channel: n times for each shape.
func someOf(shapes []shape, n int, x chance, with func(s shape, g [][]int)) {
	for _, s := range shapes {
		for range n {
			var g [][]int
			for range s.chans {
				g = append(g, x.anyGains())
			}
			with(s, g)
		}
	}
}

// P12.1: Right, Room.

func TestRightShapes(t *testing.T) {
	right := map[shape]int{}
	for _, s := range allShapes() {
		right[s] = 1
	}
	if len(right) != 94 {
		t.Fatalf("%d shapes", len(right))
	}
	for bytes := -300; bytes <= 700; bytes++ {
		for chans := -20; chans <= 300; chans++ {
			if Right(bytes, chans) != (right[shape{bytes, chans}] == 1) {
				t.Errorf("%d bytes, %d channels: right is %v", bytes, chans, Right(bytes, chans))
			}
		}
	}
	for _, s := range wrongShapes() {
		if Right(s.bytes, s.chans) {
			t.Errorf("%d bytes, %d channels are right", s.bytes, s.chans)
		}
	}
}

func TestRoomByHand(t *testing.T) {
	rows := []struct{ bytes, chans, room int }{
		{11, 1, 2}, {12, 1, 10}, {13, 1, 18}, {17, 1, 50}, {59, 1, 386}, {60, 1, 394},
		{17, 2, 2}, {18, 2, 6}, {19, 2, 10}, {20, 2, 14}, {59, 2, 170}, {60, 2, 174},
	}
	for _, r := range rows {
		if room := Room(r.bytes, r.chans); room != r.room {
			t.Errorf("%d bytes, %d channels: %d; want %d", r.bytes, r.chans, room, r.room)
		}
	}
}

func TestRoomOfAllShapes(t *testing.T) {
	for _, s := range allShapes() {
		if room := Room(s.bytes, s.chans); room != modelRoom(s) {
			t.Errorf("%v: %d; want %d", s, room, modelRoom(s))
		}
	}
	for _, s := range wrongShapes() {
		if room := Room(s.bytes, s.chans); room != 0 {
			t.Errorf("%v: %d", s, room)
		}
	}
}

// P12.2: Pulses.

// Costs of 0, 1, 2 .. pulses: of two places 0 2 3 4 4 5 5 5 5 6 6 6 6; of four 0 3 5 7 8 9; of eight 0 4 7 10 12 14 15 17 18 19.
func TestPulsesByHand(t *testing.T) {
	rows := []struct {
		bytes, chans int
		g, want      []int
	}{
		// Of room 2: enough for two bands of one, or one pulse of band 2.
		{11, 1, []int{9, 0, 0, 0, 0}, []int{1, 0, 0, 0, 0}},
		{11, 1, []int{0, 0, 9, 0, 0}, []int{0, 0, 1, 0, 0}},
		{11, 1, []int{0, 0, 0, 44, 0}, []int{0, 0, 0, 0, 0}},
		{11, 1, []int{0, 0, 0, 0, 44}, []int{0, 0, 0, 0, 0}},
		{11, 1, []int{9, 9, 9, 9, 9}, []int{1, 1, 0, 0, 0}},
		{11, 1, []int{44, 44, 1, 1, 1}, []int{1, 1, 0, 0, 0}},
		// Of two as worthy the first one; else the worthier, if there is room for it.
		{11, 1, []int{9, 0, 9, 0, 0}, []int{1, 0, 0, 0, 0}},
		{11, 1, []int{8, 0, 9, 0, 0}, []int{0, 0, 1, 0, 0}},
		{11, 1, []int{0, 1, 0, 44, 44}, []int{0, 1, 0, 0, 0}},
		{11, 1, []int{0, 1, 43, 44, 44}, []int{0, 0, 1, 0, 0}},
		// Of room 6: the fourth pulse of band 2 costs nothing, and nothing is left.
		{18, 2, []int{44, 44, 20, 0, 0}, []int{1, 1, 4, 0, 0}},
		// Worths below 0 are worths.
		{18, 2, []int{0, 0, 1, 0, 0}, []int{0, 0, 12, 0, 0}},
		{18, 2, []int{1, 0, 1, 0, 0}, []int{1, 0, 8, 0, 0}},
		{18, 2, []int{1, 1, 2, 0, 0}, []int{1, 1, 4, 0, 0}},
		// Of room 10: band 2 (80), 3 (80), 3 (76), 2 (72, as 3), 3 (72), and nothing is left.
		{12, 1, []int{0, 0, 10, 10, 0}, []int{0, 0, 2, 3, 0}},
		{19, 2, []int{0, 0, 0, 0, 12}, []int{0, 0, 0, 0, 3}},
		// Of room 18: band 3 (88), 3 (84), 3 (80, as 4), 4 (80), 4 (78), 3 (76, as 4), 4 (76).
		{13, 1, []int{0, 0, 0, 11, 10}, []int{0, 0, 0, 4, 3}},
		{13, 1, []int{0, 0, 0, 0, 5}, []int{0, 0, 0, 0, 8}},
		// One bit is left, and the seventh pulse would cost two.
		{13, 1, []int{5, 5, 0, 0, 5}, []int{1, 1, 0, 0, 6}},
		// More room than all pulses take.
		{60, 1, []int{0, 0, 0, 0, 0}, []int{0, 0, 0, 0, 0}},
		{60, 1, []int{1, 1, 1, 1, 1}, []int{1, 1, 12, 12, 12}},
		{60, 2, []int{44, 44, 44, 44, 44}, []int{1, 1, 12, 12, 12}},
		{60, 2, []int{0, 44, 0, 1, 0}, []int{0, 1, 0, 12, 0}},
	}
	for _, r := range rows {
		g := slices.Repeat([][]int{r.g}, r.chans)
		for c, k := range pulsesOf(t, shape{r.bytes, r.chans}, g...) {
			if !slices.Equal(k, r.want) {
				t.Errorf("%d bytes, gains %v, channel %d: %v; want %v", r.bytes, r.g, c, k, r.want)
			}
		}
	}
}

func TestPulsesOfTwoChannelsByHand(t *testing.T) {
	rows := []struct {
		bytes   int
		g, want [][]int
	}{
		{17, [][]int{{9, 0, 0, 0, 0}, {0, 0, 9, 0, 0}}, [][]int{{1, 0, 0, 0, 0}, {0, 0, 1, 0, 0}}},
		{17, [][]int{{0, 0, 0, 0, 0}, {9, 9, 9, 9, 9}}, [][]int{{0, 0, 0, 0, 0}, {1, 1, 0, 0, 0}}},
		{19, [][]int{{0, 0, 10, 10, 0}, {0, 0, 0, 0, 12}}, [][]int{{0, 0, 2, 3, 0}, {0, 0, 0, 0, 3}}},
		{60, [][]int{{0, 1, 0, 0, 0}, {0, 0, 0, 0, 1}}, [][]int{{0, 1, 0, 0, 0}, {0, 0, 0, 0, 12}}},
	}
	for _, r := range rows {
		if k := pulsesOf(t, shape{r.bytes, 2}, r.g...); !same(k, r.want) {
			t.Errorf("%d bytes, gains %v: %v; want %v", r.bytes, r.g, k, r.want)
		}
	}
}

func holdAgainstModel(t *testing.T, s shape, g [][]int) {
	t.Helper()
	k := pulsesOf(t, s, g...)
	for c := range g {
		if want, _ := modelPulses(g[c], modelRoom(s)); !slices.Equal(k[c], want) {
			t.Fatalf("%v, gains %v, channel %d: %v; want %v", s, g, c, k[c], want)
		}
	}
}

func TestPulsesOfAnyGains(t *testing.T) {
	someOf(tightShapes(), 300, 0x9e3779b97f4a7c15, func(s shape, g [][]int) { holdAgainstModel(t, s, g) })
	someOf(allShapes(), 20, 0xd1342543de82ef95, func(s shape, g [][]int) { holdAgainstModel(t, s, g) })
}

// Each gain alone, and against each other one in another band.
func TestPulsesOfPairs(t *testing.T) {
	for gain := range 45 {
		for other := range 45 {
			g := make([]int, 5)
			at := (gain + 2*other) % 5
			g[at], g[(at+1+other%4)%5] = gain, other
			for i := range 3 {
				holdAgainstModel(t, shape{11 + (gain+i)%5, 1}, [][]int{g})
			}
		}
	}
}

func TestPulsesOfWrongShapes(t *testing.T) {
	x := chance(0x94d049bb133111eb)
	for _, s := range wrongShapes() {
		for n := range 5 {
			var g [][]int
			for range n {
				g = append(g, x.anyGains())
			}
			if k, e := Pulses(s.bytes, s.chans, g); len(k) != 0 || e != api.ErrArg {
				t.Errorf("%v, %d channels' gains: %v, error %d", s, n, k, e)
			}
		}
	}
}

func TestPulsesOfWrongGains(t *testing.T) {
	x := chance(0xbf58476d1ce4e5b9)
	wrong := func(s shape, g ...[]int) {
		t.Helper()
		if k, e := Pulses(s.bytes, s.chans, g); len(k) != 0 || e != api.ErrArg {
			t.Errorf("%v, gains of %d channels, %v..: %v, error %d", s, len(g), g[:min(len(g), 2)], k, e)
		}
	}
	for _, g := range wrongGains() {
		wrong(shape{11, 1}, g)
		wrong(shape{60, 1}, g)
		wrong(shape{17, 2}, g, x.anyGains())
		wrong(shape{60, 2}, x.anyGains(), g)
		wrong(shape{60, 2}, g, g)
	}
	for _, s := range allShapes() {
		for n := range 5 {
			if n != s.chans {
				wrong(s, slices.Repeat([][]int{{9, 9, 9, 9, 9}}, n)...)
			}
		}
	}
	wrong(shape{60, 1}, slices.Repeat([][]int{{9, 9, 9, 9, 9}}, 257)...)
	wrong(shape{60, 1}, make([][]int, 1)...)
	wrong(shape{60, 2}, make([][]int, 2)...)
	wrong(shape{60, 2}, make([][]int, 1, 2)...)
}

// What follows.

// spent answers what a channel's pulses cost.
func spent(k []int) int {
	sum := 0
	for b, n := range k {
		sum += modelCost[b][n]
	}
	return sum
}

// P12.3
func TestPulsesAreWithinTheRoom(t *testing.T) {
	tight := 0
	hold := func(s shape, g [][]int) {
		for c, k := range pulsesOf(t, s, g...) {
			if spent(k) > Room(s.bytes, s.chans) {
				t.Fatalf("%v, gains %v, channel %d: %v cost %d bits", s, g, c, k, spent(k))
			}
			if spent(k) == Room(s.bytes, s.chans) {
				tight++
			}
		}
	}
	someOf(tightShapes(), 100, 0x5851f42d4c957f2d, hold)
	someOf(allShapes(), 10, 0xda942042e4dd58b5, hold)
	if tight < 500 {
		t.Errorf("%d times all of the room was taken", tight)
	}
}

// P12.4: and bands, of one coefficient too, are seen to have as many as they may.
func TestNoMoreIsLeft(t *testing.T) {
	var full [5]int
	hold := func(s shape, g [][]int) {
		for c, k := range pulsesOf(t, s, g...) {
			left := modelRoom(s) - spent(k)
			for b, n := range k {
				if n < 0 || n > modelMost[b] || n > 0 && g[c][b] == 0 {
					t.Fatalf("%v, gains %v, channel %d: %v", s, g, c, k)
				}
				if modelMore(b, g[c][b], n, left) {
					t.Fatalf("%v, gains %v, channel %d: %v, and %d bits are enough for one more in band %d", s, g, c, k, left, b)
				}
				if n == modelMost[b] {
					full[b]++
				}
			}
		}
	}
	someOf(tightShapes(), 100, 0x2545f4914f6cdd1d, hold)
	someOf(allShapes(), 10, 0x27d4eb2f165667c5, hold)
	for b, n := range full {
		if n < 100 {
			t.Errorf("band %d had all its pulses %d times", b, n)
		}
	}
}

// P12.5
func TestChannelsHangOnTheirOwnGains(t *testing.T) {
	x := chance(0xff51afd7ed558ccd)
	for _, s := range allShapes() {
		if s.chans != 2 {
			continue
		}
		for range 10 {
			one, other, third := x.anyGains(), x.anyGains(), x.anyGains()
			a, b := pulsesOf(t, s, one, other), pulsesOf(t, s, one, third)
			c, d := pulsesOf(t, s, other, one), pulsesOf(t, s, one, one)
			for _, k := range [][]int{b[0], c[1], d[0], d[1]} {
				if !slices.Equal(k, a[0]) {
					t.Fatalf("%v, gains %v beside %v, %v: %v, and %v", s, one, other, third, a[0], k)
				}
			}
			if !slices.Equal(c[0], a[1]) {
				t.Fatalf("%v, gains %v beside %v: %v, and %v", s, other, one, a[1], c[0])
			}
		}
	}
}

// R3: what is handed in stays as it is, its spare room too, and what is answered is new memory. R4: what was done with an answer is not to be seen in the next one.

// spoil writes over a list and its spare room.
func spoil(list []int) {
	for i := range list[:cap(list)] {
		list[:cap(list)][i] ^= 0x2a
	}
}

func TestGainsStay(t *testing.T) {
	hold := func(s shape, g [][]int) {
		// Both the list and those in it have spare room, and what stands there is no channel's.
		var whole [][]int
		for _, one := range append(slices.Clone(g), []int{7, 7}, []int{8}) {
			whole = append(whole, append(slices.Clone(one), 3, -3))
		}
		in := slices.Clone(whole)
		for c := range s.chans {
			in[c] = in[c][:5]
		}
		was := fmt.Sprint(whole, in)
		Right(s.bytes, s.chans)
		for _, k := range pulsesOf(t, s, in[:s.chans]...) {
			spoil(k)
		}
		if now := fmt.Sprint(whole, in); now != was {
			t.Fatalf("%v: %s, and now %s", s, was, now)
		}
	}
	someOf(tightShapes(), 20, 0xc4ceb9fe1a85ec53, hold)
	someOf(allShapes(), 2, 0xa3b195354a39b70d, hold)
}

func TestPulsesAreNewMemory(t *testing.T) {
	hold := func(s shape, g [][]int) {
		first := pulsesOf(t, s, g...)
		told := make([][]int, len(first))
		for c, k := range first {
			told[c] = slices.Clone(k)
		}
		second := pulsesOf(t, s, g...)
		for c := range second {
			spoil(second[c])
			// The channels behind it stay as they were.
			if !same(second[c+1:], told[c+1:]) || !same(first, told) {
				t.Fatalf("%v, gains %v: memory is shared", s, g)
			}
		}
		if third := pulsesOf(t, s, g...); !same(third, told) {
			t.Fatalf("%v, gains %v: %v, and now %v", s, g, told, third)
		}
	}
	someOf(tightShapes(), 20, 0xe7037ed1a0b428db, hold)
	someOf(allShapes(), 2, 0x8ebc6af09c88c6e3, hold)
}

// The same gains for both channels, in the same memory, are parted too.
func TestChannelsShareNoMemory(t *testing.T) {
	g := []int{9, 9, 9, 9, 9}
	k := pulsesOf(t, shape{30, 2}, g, g)
	was := slices.Clone(k[1])
	spoil(k[0])
	if !slices.Equal(k[1], was) || !slices.Equal(g, []int{9, 9, 9, 9, 9}) {
		t.Errorf("%v, and now %v", was, k[1])
	}
}
