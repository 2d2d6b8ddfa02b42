package gain

import (
	"bytes"
	"math"
	"slices"
	"testing"

	"psaltery/api"
	"psaltery/coder"
)

// The tests hold the layer against a row of choices, worked out from the chapter's words, that package coder puts and takes one by one, and against cases reckoned by hand.

// chance is a row of numbers that do not repeat soon.
type chance uint64

func (x *chance) next() uint64 {
	*x ^= *x << 13
	*x ^= *x >> 7
	*x ^= *x << 17
	return uint64(*x)
}

func (x *chance) below(n int) int {
	return int(x.next() >> 11 % uint64(n))
}

func (x *chance) bytes(n int) []byte {
	b := make([]byte, n)
	for i := range b {
		b[i] = byte(x.next() >> 13)
	}
	return b
}

// anyGains are gains of any kind, edges now and then.
func (x *chance) anyGains() []int {
	g := make([]int, 5)
	for i := range g {
		switch x.below(6) {
		case 0:
			g[i] = x.below(4)
		case 1:
			g[i] = 44 - x.below(4)
		default:
			g[i] = x.below(45)
		}
	}
	return g
}

// nearTo are gains of which most are not far from those of g.
func (x *chance) nearTo(g []int) []int {
	out := slices.Clone(g)
	for i := range out {
		out[i] = min(max(out[i]+x.below(11)-5, 0), 44)
	}
	return out
}

// pair is gains, and those ahead.
type pair struct{ g, ahead []int }

// somePairs are each gain against each other one, in each band, and many by chance.
func somePairs(x chance, n int) []pair {
	var out []pair
	for g := range 45 {
		for ahead := range 45 {
			p := pair{x.anyGains(), x.anyGains()}
			at := (g + ahead) % 5
			p.g[at], p.ahead[at] = g, ahead
			out = append(out, p)
		}
	}
	for range n {
		p := pair{nil, x.anyGains()}
		p.g = x.nearTo(p.ahead)
		out = append(out, p)
	}
	return out
}

// wrongGains are lists that are no gains: too short, too long, or with a number that may not be, also such as a narrower integer would take for a gain.
func wrongGains() [][]int {
	out := [][]int{nil, {}, make([]int, 0, 5), make([]int, 4, 16), make([]int, 256), make([]int, 261), make([]int, 65541)}
	for n := range 12 {
		if n != 5 {
			out = append(out, make([]int, n), slices.Repeat([]int{7}, n), slices.Repeat([]int{44}, n))
		}
	}
	for _, v := range []int{-1, -2, -44, -45, 45, 46, 63, 64, 128, 255, 256, 256 + 7, -256 + 7, 65536 + 7, 1 << 32, 1<<32 + 7, -(1 << 32) + 7, 1 << 62, math.MaxInt, math.MinInt, math.MinInt + 7} {
		out = append(out, slices.Repeat([]int{v}, 5))
		for at := range 5 {
			g := []int{7, 0, 44, 8, 9}
			g[at] = v
			out = append(out, g)
		}
	}
	return out
}

// share is one of tot, from lo on.
type share struct{ lo, tot int }

// sharesOf are what is put for gains.
func sharesOf(g, ahead []int, intra bool) []share {
	var out []share
	for i, v := range g {
		if intra {
			out = append(out, share{v, 45})
			continue
		}
		switch v - ahead[i] {
		case -3, -2, -1, 0, 1, 2, 3:
			out = append(out, share{v - ahead[i] + 3, 8})
		default:
			out = append(out, share{7, 8}, share{v, 45})
		}
	}
	return out
}

// fresh is what coder.New answers, and none what coder.Open answers of no bytes.
func fresh() coder.Enc { return coder.Enc{Range: 1<<32 - 1} }
func none() coder.Dec  { return coder.Dec{Range: 1<<32 - 1, At: 4} }

// putShares puts all of them, and tells e (or the new one) where there is no room.
func putShares(e coder.Enc, all []share) (coder.Enc, api.Errno) {
	if !coder.RightEnc(e) {
		e = fresh()
	}
	out := e
	for _, s := range all {
		var f api.Errno
		if out, f = coder.Put(out, s.lo, s.lo+1, s.tot); f != api.OK {
			return e, f
		}
	}
	return out, api.OK
}

func takeShare(d coder.Dec, tot int) (coder.Dec, int) {
	v, _ := coder.Get(d, tot)
	d, _ = coder.Take(d, v, v+1, tot)
	return d, v
}

// takeShares takes gains, and tells how many of them were beyond a bound.
func takeShares(d coder.Dec, ahead []int, intra bool) (coder.Dec, []int, int) {
	var g []int
	beyond := 0
	for i := range 5 {
		k := 7
		if !intra {
			d, k = takeShare(d, 8)
		}
		var v int
		if k == 7 {
			d, v = takeShare(d, 45)
		} else {
			v = ahead[i] - 3 + k
		}
		switch {
		case v < 0:
			v = 0
			beyond++
		case v > 44:
			v = 44
			beyond++
		}
		g = append(g, v)
	}
	return d, g, beyond
}

func sameEnc(a, b coder.Enc) bool {
	return a.Low == b.Low && a.Range == b.Range && bytes.Equal(a.Out, b.Out)
}

// sameDec: the same place of the very same bytes?
func sameDec(a, b coder.Dec) bool {
	return a.Code == b.Code && a.Range == b.Range && a.At == b.At && len(a.B) == len(b.B) && (len(a.B) == 0 || &a.B[0] == &b.B[0])
}

// anyEnc is an encoder in which something is put.
func (x *chance) anyEnc() coder.Enc {
	e := coder.New()
	for range x.below(12) {
		e, _ = coder.PutNum(e, uint64(x.below(1000)), 1000)
	}
	return e
}

// wrongEncs are encoders that may not be.
func wrongEncs() []coder.Enc {
	return []coder.Enc{
		{}, {Low: 5}, {Out: []byte{1, 2}}, {Range: 1<<24 - 1}, {Range: 1, Out: []byte{9}}, {Low: 1 << 32, Range: 1<<32 - 1, Out: []byte{255}},
		{Low: math.MaxUint64, Range: 1 << 31}, {Range: 1<<32 - 1, Out: make([]byte, 4001)}, {Low: 1 << 40, Range: 3, Out: make([]byte, 9000)},
	}
}

// wrongDecs are decoders that may not be; what they have of bytes doesn't count.
func wrongDecs() []coder.Dec {
	b := []byte{255, 254, 253, 252, 251, 250, 249}
	return []coder.Dec{
		{}, {B: b}, {Code: 1<<32 - 1, Range: 1<<24 - 1, B: b, At: 4}, {Code: 1 << 32, Range: 1<<32 - 1, B: b, At: 4},
		{Code: math.MaxUint64, Range: 1 << 31, B: b}, {Code: 1 << 31, Range: 1<<32 - 1, B: b, At: -1}, {Code: 1 << 31, Range: 1<<32 - 1, B: b, At: math.MinInt},
	}
}

func putIs(t *testing.T, e coder.Enc, p pair, intra bool, want coder.Enc, wantF api.Errno) coder.Enc {
	t.Helper()
	y, f := Put(e, p.g, p.ahead, intra)
	if !sameEnc(y, want) || f != wantF {
		t.Fatalf("%v against %v, intra %v: %x %x, %d bytes, error %d; want %x %x, %d bytes, error %d", p.g, p.ahead, intra, y.Low, y.Range, len(y.Out), f, want.Low, want.Range, len(want.Out), wantF)
	}
	return y
}

func takeIs(t *testing.T, d coder.Dec, ahead []int, intra bool, want coder.Dec, g []int) coder.Dec {
	t.Helper()
	y, x, f := Take(d, ahead, intra)
	if !sameDec(y, want) || !slices.Equal(x, g) || f != api.OK {
		t.Fatalf("%x at %d against %v, intra %v: %v, at %d, error %d; want %v, at %d", d.B, d.At, ahead, intra, x, y.At, f, g, want.At)
	}
	return y
}

// P11.1: Right.

func TestRight(t *testing.T) {
	for v := range 45 {
		for at := range 5 {
			g := []int{44, 0, 7, 1, 43}
			g[at] = v
			if !Right(g) || !Right(slices.Repeat([]int{v}, 5)) {
				t.Errorf("%v are gains, or %d alone", g, v)
			}
		}
	}
	for _, g := range wrongGains() {
		if Right(g) {
			t.Errorf("%d numbers, %v.., are no gains", len(g), g[:min(len(g), 6)])
		}
	}
}

// P11.1: Put.

func TestPutByHand(t *testing.T) {
	rows := []struct {
		p     pair
		intra bool
		all   []share
	}{
		{pair{[]int{5, 5, 5, 5, 5}, []int{5, 4, 8, 9, 5}}, false, []share{{3, 8}, {4, 8}, {0, 8}, {7, 8}, {5, 45}, {3, 8}}},
		{pair{[]int{5, 5, 5, 5, 5}, []int{5, 4, 8, 9, 5}}, true, []share{{5, 45}, {5, 45}, {5, 45}, {5, 45}, {5, 45}}},
		{pair{[]int{0, 1, 2, 3, 44}, nil}, true, []share{{0, 45}, {1, 45}, {2, 45}, {3, 45}, {44, 45}}},
		{pair{[]int{3, 4, 0, 44, 41}, []int{0, 0, 3, 41, 44}}, false, []share{{6, 8}, {7, 8}, {4, 45}, {0, 8}, {6, 8}, {0, 8}}},
		{pair{[]int{0, 44, 0, 40, 44}, []int{44, 0, 4, 44, 40}}, false, []share{{7, 8}, {0, 45}, {7, 8}, {44, 45}, {7, 8}, {0, 45}, {7, 8}, {40, 45}, {7, 8}, {44, 45}}},
		{pair{[]int{10, 11, 12, 9, 8}, []int{10, 10, 10, 10, 10}}, false, []share{{3, 8}, {4, 8}, {5, 8}, {2, 8}, {1, 8}}},
	}
	for _, r := range rows {
		want, f := putShares(fresh(), r.all)
		if f != api.OK {
			t.Fatalf("%v: error %d", r.all, f)
		}
		putIs(t, coder.New(), r.p, r.intra, want, api.OK)
	}
}

// What is put is reckoned here without package coder: r is Range / 45 or / 8 at each step.
func TestPutBytesByHand(t *testing.T) {
	// 0 of 45 five times: Range is 05b05b05, 00205d0b and so 205d0b00, 00b81cb0 and so b81cb000, 0417649f, 00174680 and so 17468000.
	want := coder.Enc{Low: 0, Range: 0x17468000, Out: []byte{0, 0, 0}}
	putIs(t, coder.New(), pair{[]int{0, 0, 0, 0, 0}, nil}, true, want, api.OK)
	// 3 of 8 five times: Range is 1fffffff, 03ffffff, 007fffff and so 7fffff00, 0fffffe0, 01fffffc; Low is 5ffffffd, 6bfffffa, 6d7ffff7 and so 7ffff700, affff6a0, b5fff694.
	want = coder.Enc{Low: 0xb5fff694, Range: 0x01fffffc, Out: []byte{0x6d}}
	putIs(t, coder.New(), pair{[]int{9, 9, 9, 9, 9}, []int{9, 9, 9, 9, 9}}, false, want, api.OK)
}

func TestPutAny(t *testing.T) {
	x := chance(0x9e3779b97f4a7c15)
	for _, p := range somePairs(0xd1342543de82ef95, 5000) {
		for _, intra := range []bool{false, true} {
			e := x.anyEnc()
			want, f := putShares(e, sharesOf(p.g, p.ahead, intra))
			if f != api.OK {
				t.Fatalf("%v: error %d", p, f)
			}
			putIs(t, e, p, intra, want, api.OK)
		}
	}
}

func TestPutWrong(t *testing.T) {
	x := chance(0x94d049bb133111eb)
	full := coder.Enc{Low: 3, Range: 1 << 24, Out: x.bytes(3999)}
	for _, g := range wrongGains() {
		for _, e := range []coder.Enc{coder.New(), x.anyEnc(), full} {
			putIs(t, e, pair{g, x.anyGains()}, false, e, api.ErrArg)
			putIs(t, e, pair{g, x.anyGains()}, true, e, api.ErrArg)
			putIs(t, e, pair{x.anyGains(), g}, false, e, api.ErrArg)
			putIs(t, e, pair{g, g}, false, e, api.ErrArg)
			putIs(t, e, pair{g, g}, true, e, api.ErrArg)
		}
		for _, e := range wrongEncs() {
			putIs(t, e, pair{g, x.anyGains()}, x.below(2) == 0, fresh(), api.ErrArg)
			putIs(t, e, pair{x.anyGains(), g}, false, fresh(), api.ErrArg)
		}
	}
}

// Intra, what is ahead is not looked at.
func TestPutIntraAgainstAnything(t *testing.T) {
	x := chance(0x5851f42d4c957f2d)
	for _, ahead := range wrongGains() {
		e, g := x.anyEnc(), x.anyGains()
		want, _ := putShares(e, sharesOf(g, nil, true))
		putIs(t, e, pair{g, ahead}, true, want, api.OK)
	}
}

// Where there is room for some choices only, none stays.
func TestPutFull(t *testing.T) {
	x := chance(0xda942042e4dd58b5)
	half := 0
	for n := 3985; n <= 4000; n++ {
		for i := range 400 {
			e := coder.Enc{Low: x.next() >> 32, Range: 1<<24 + uint32(x.below(1<<26)), Out: x.bytes(n)}
			p := pair{x.anyGains(), x.anyGains()}
			if i%2 == 0 {
				p.g = x.nearTo(p.ahead)
			}
			intra := i%3 == 0
			want, f := putShares(e, sharesOf(p.g, p.ahead, intra))
			if n >= 3996 && f != api.ErrFull {
				t.Fatalf("%d bytes: there is room", n)
			}
			if n < 3996 && f == api.ErrFull {
				half++
			}
			putIs(t, e, p, intra, want, f)
		}
	}
	if half < 100 {
		t.Errorf("%d times there was room for some only", half)
	}
}

// The room ends behind the first gain, within it, and behind the last one.
func TestPutFullAtEdges(t *testing.T) {
	// Range is the least: 1 of 45 makes a byte, the last for which there is room.
	e := coder.Enc{Range: 1 << 24, Out: make([]byte, 3995)}
	putIs(t, e, pair{[]int{1, 1, 1, 1, 1}, nil}, true, e, api.ErrFull)
	// So does 7 of 8, and behind it there is no room for the gain by itself.
	putIs(t, e, pair{[]int{40, 0, 0, 0, 0}, []int{0, 0, 0, 0, 0}}, false, e, api.ErrFull)
	// Range is less than 2^24 with the third 3 of 8: there is no room for the fourth one.
	e = coder.Enc{Range: 1 << 31, Out: make([]byte, 3995)}
	putIs(t, e, pair{[]int{6, 6, 6, 6, 6}, []int{6, 6, 6, 6, 6}}, false, e, api.ErrFull)
	// The second byte is that of the last choice.
	e = coder.Enc{Range: 1<<32 - 1, Out: make([]byte, 3994)}
	far := pair{[]int{6, 6, 6, 6, 44}, []int{6, 6, 6, 6, 6}}
	want, f := putShares(e, sharesOf(far.g, far.ahead, false))
	if f != api.OK || len(want.Out) != 3996 {
		t.Fatalf("%d bytes, error %d", len(want.Out), f)
	}
	putIs(t, e, far, false, want, api.OK)
}

func TestPutBehindWrongEncs(t *testing.T) {
	x := chance(0x6c62272e07bb0142)
	for _, e := range wrongEncs() {
		for range 20 {
			p := pair{x.anyGains(), x.anyGains()}
			for _, intra := range []bool{false, true} {
				want, _ := putShares(fresh(), sharesOf(p.g, p.ahead, intra))
				putIs(t, e, p, intra, want, api.OK)
			}
		}
	}
}

// P11.2: Take.

func TestTakeByHand(t *testing.T) {
	// Nothing but 0: the lowest choices. Against gains ahead each is 3 less, but not below 0.
	d, g, f := Take(coder.Open(nil), []int{44, 10, 3, 2, 0}, false)
	if f != api.OK || !slices.Equal(g, []int{41, 7, 0, 0, 0}) || !coder.RightDec(d) {
		t.Errorf("%v, error %d", g, f)
	}
	if _, g, f = Take(coder.Open(nil), nil, true); f != api.OK || !slices.Equal(g, []int{0, 0, 0, 0, 0}) {
		t.Errorf("%v, error %d", g, f)
	}
	// Choice 6 of 8 each time: 3 more, but not above 44.
	e, _ := putShares(fresh(), slices.Repeat([]share{{6, 8}}, 5))
	if _, g, f = Take(coder.Open(coder.Finish(e)), []int{0, 30, 41, 42, 44}, false); f != api.OK || !slices.Equal(g, []int{3, 33, 44, 44, 44}) {
		t.Errorf("%v, error %d", g, f)
	}
	// The bytes ff tell the last choices.
	b := bytes.Repeat([]byte{255}, 20)
	if _, g, f = Take(coder.Open(b), []int{0, 1, 2, 3, 4}, false); f != api.OK || !slices.Equal(g, []int{44, 44, 44, 44, 44}) {
		t.Errorf("%v, error %d", g, f)
	}
	if _, g, f = Take(coder.Open(b), nil, true); f != api.OK || !slices.Equal(g, []int{44, 44, 44, 44, 44}) {
		t.Errorf("%v, error %d", g, f)
	}
}

func TestTakeWrong(t *testing.T) {
	b := []byte{1, 2, 3, 4, 5, 6, 7, 8, 9}
	for _, ahead := range wrongGains() {
		for _, d := range append(wrongDecs(), coder.Open(b), coder.Open(nil)) {
			y, g, f := Take(d, ahead, false)
			if !sameDec(y, coder.Dec{}) || len(g) != 0 || f != api.ErrArg {
				t.Errorf("%v.. ahead: %v, %v, error %d", ahead[:min(len(ahead), 6)], y, g, f)
			}
		}
	}
}

// Intra, what is ahead is not looked at.
func TestTakeIntraAgainstAnything(t *testing.T) {
	x := chance(0x2545f4914f6cdd1d)
	for _, ahead := range wrongGains() {
		d := coder.Open(x.bytes(10))
		want, g, _ := takeShares(d, nil, true)
		takeIs(t, d, ahead, true, want, g)
	}
}

func TestTakeOfWrongDecs(t *testing.T) {
	x := chance(0x27d4eb2f165667c5)
	for _, d := range wrongDecs() {
		ahead := x.anyGains()
		for _, intra := range []bool{false, true} {
			want, g, _ := takeShares(none(), ahead, intra)
			takeIs(t, d, ahead, intra, want, g)
		}
	}
}

// P11.2: Most.

func TestMost(t *testing.T) {
	if Most(true) != 30 || Most(false) != 45 {
		t.Errorf("%d, %d", Most(true), Most(false))
	}
}

// The bits are enough, and each gain asks for its own as its choices' wholes do: 45 for 6, 8 and 45 for 9.
func TestMostIsEnough(t *testing.T) {
	bits := map[int]int{45: 6, 8: 3}
	most := map[bool]int{}
	for _, p := range somePairs(0xff51afd7ed558ccd, 2000) {
		for _, intra := range []bool{false, true} {
			sum := 0
			for _, s := range sharesOf(p.g, p.ahead, intra) {
				sum += bits[s.tot]
			}
			e, f := Put(coder.New(), p.g, p.ahead, intra)
			// What an encoder has told of an end is not more than its choices ask for.
			if f != api.OK || sum > Most(intra) || 8*len(e.Out) > Most(intra) {
				t.Fatalf("%v, intra %v: %d bits, %d bytes, error %d", p, intra, sum, len(e.Out), f)
			}
			most[intra] = max(most[intra], sum)
		}
	}
	if most[true] != Most(true) || most[false] != Most(false) {
		t.Errorf("%v are the most; want %d, %d", most, Most(true), Most(false))
	}
}

// What follows.

// P11.3
func TestPutIsTaken(t *testing.T) {
	for _, p := range somePairs(0xc4ceb9fe1a85ec53, 5000) {
		for _, intra := range []bool{false, true} {
			e, f := Put(coder.New(), p.g, p.ahead, intra)
			if f != api.OK {
				t.Fatalf("%v, intra %v: error %d", p, intra, f)
			}
			if _, g, f := Take(coder.Open(coder.Finish(e)), p.ahead, intra); f != api.OK || !slices.Equal(g, p.g) {
				t.Fatalf("%v, intra %v: %v, error %d", p, intra, g, f)
			}
		}
	}
}

// P11.3: many frames one behind the other, with other choices between them.
func TestRowsOfFramesAreTaken(t *testing.T) {
	x := chance(0xa3b195354a39b70d)
	for range 100 {
		var frames [][]int
		var intra []bool
		e, ahead := coder.New(), make([]int, 5)
		for range 1 + x.below(200) {
			g := x.nearTo(ahead)
			if x.below(8) == 0 {
				g = x.anyGains()
			}
			frames, intra = append(frames, g), append(intra, x.below(4) == 0)
			var f, h api.Errno
			e, f = Put(e, g, ahead, intra[len(intra)-1])
			e, h = coder.PutNum(e, uint64(g[0]), 50)
			if f != api.OK || h != api.OK {
				t.Fatalf("%v against %v: errors %d, %d", g, ahead, f, h)
			}
			ahead = g
		}
		d, ahead := coder.Open(coder.Finish(e)), make([]int, 5)
		for i, want := range frames {
			y, g, f := Take(d, ahead, intra[i])
			if f != api.OK || !slices.Equal(g, want) {
				t.Fatalf("frame %d: %v, error %d; want %v", i, g, f, want)
			}
			var v uint64
			if d, v, f = coder.TakeNum(y, 50); f != api.OK || v != uint64(want[0]) {
				t.Fatalf("behind frame %d: %d, error %d; want %d", i, v, f, want[0])
			}
			ahead = g
		}
	}
}

// P11.4: what is taken are gains, and those that stand as they were told.
func TestAnyBytesAreTaken(t *testing.T) {
	x := chance(0xe7037ed1a0b428db)
	all := 0
	for i := range 4000 {
		b := x.bytes(x.below(30))
		switch i % 8 {
		case 0:
			b = bytes.Repeat([]byte{255}, len(b))
		case 1:
			b = make([]byte, len(b))
		}
		d, ahead := coder.Open(b), x.anyGains()
		for range 6 {
			intra := x.below(3) == 0
			want, g, beyond := takeShares(d, ahead, intra)
			if !Right(g) {
				t.Fatalf("%x: %v are no gains", b, g)
			}
			d = takeIs(t, d, ahead, intra, want, g)
			all += beyond
			ahead = g
		}
		if d.At > max(len(b), 4) {
			t.Fatalf("%d bytes: at %d", len(b), d.At)
		}
	}
	if all < 1000 {
		t.Errorf("%d were beyond a bound", all)
	}
}

// P11.4: decoders in any state, also with a code beyond the range.
func TestAnyDecodersAreTaken(t *testing.T) {
	x := chance(0x8ebc6af09c88c6e3)
	for range 4000 {
		b := x.bytes(x.below(12))
		d := coder.Dec{Code: x.next() >> 32, Range: uint32(1<<24 + x.below(1<<32-1<<24)), B: b, At: x.below(20)}
		if x.below(10) == 0 {
			d.At = math.MaxInt - x.below(3)
		}
		ahead, intra := x.anyGains(), x.below(2) == 0
		want, g, _ := takeShares(d, ahead, intra)
		takeIs(t, d, ahead, intra, want, g)
	}
}

// P11.5: and those that are not put intra are seen to hang on what is ahead, so that the test has something to hold.
func TestIntraHangsOnNothingAhead(t *testing.T) {
	x := chance(0x589965cc75374cc3)
	others := 0
	for range 2000 {
		g, one, other := x.anyGains(), x.anyGains(), x.anyGains()
		a, f := Put(coder.New(), g, one, true)
		b, h := Put(coder.New(), g, other, true)
		c, i := Put(coder.New(), g, nil, true)
		if f != api.OK || h != api.OK || i != api.OK || !sameEnc(a, b) || !sameEnc(a, c) {
			t.Fatalf("%v against %v, %v: errors %d, %d, %d", g, one, other, f, h, i)
		}
		d := coder.Open(coder.Finish(a))
		for _, ahead := range [][]int{one, other, nil, {1, 2}, {-5, 99, 3, 1 << 40, 0}} {
			if _, y, f := Take(d, ahead, true); f != api.OK || !slices.Equal(y, g) {
				t.Fatalf("%v against %v: %v, error %d", g, ahead, y, f)
			}
		}
		_, y, _ := Take(d, one, false)
		_, z, _ := Take(d, other, false)
		if !slices.Equal(y, z) {
			others++
		}
	}
	if others < 1000 {
		t.Errorf("%d were others against others", others)
	}
}

// R3: what is handed in stays as it is, its spare room too, and what is answered is new memory (but a decoder's bytes). R4: what was done with an answer is not to be seen in the next one.

// spoil writes over a list and its spare room.
func spoil[T int | byte](list []T) {
	for i := range list[:cap(list)] {
		list[:cap(list)][i] ^= 0x2a
	}
}

func TestGainsStay(t *testing.T) {
	for _, p := range somePairs(0xb5297a4d3f84d5b5, 500) {
		g, ahead := append(slices.Clone(p.g), 3, -3), append(slices.Clone(p.ahead), 4, -4)
		wasG, wasAhead := slices.Clone(g), slices.Clone(ahead)
		for _, intra := range []bool{false, true} {
			Right(g[:5])
			Put(coder.New(), g[:5], ahead[:5], intra)
			_, x, _ := Take(coder.Open([]byte{9, 8, 7, 6, 5, 4}), ahead[:5], intra)
			spoil(x)
			if !slices.Equal(g, wasG) || !slices.Equal(ahead, wasAhead) {
				t.Fatalf("%v, %v: now %v, %v", wasG, wasAhead, g, ahead)
			}
		}
	}
}

// stays holds that an encoder's bytes, and the room behind them, are neither changed nor shared.
func stays(t *testing.T, e coder.Enc, p pair, intra bool) {
	t.Helper()
	room := append(slices.Clone(e.Out), 0xaa, 0xaa, 0xaa, 0xaa, 0xaa, 0xaa, 0xaa, 0xaa, 0xaa, 0xaa)
	was := slices.Clone(room)
	e.Out = room[:len(e.Out)]
	first, _ := Put(e, p.g, p.ahead, intra)
	told := slices.Clone(first.Out)
	second, _ := Put(e, p.g, p.ahead, intra)
	if !bytes.Equal(room, was) {
		t.Fatalf("%v, intra %v: what is handed in is changed", p, intra)
	}
	spoil(second.Out)
	if !bytes.Equal(room, was) || !bytes.Equal(first.Out, told) {
		t.Fatalf("%v, intra %v: memory is shared", p, intra)
	}
}

func TestEncodersShareNoMemory(t *testing.T) {
	x := chance(0x1b56c4e9a3d1f7a5)
	wrong := pair{[]int{45, 0, 0, 0, 0}, nil}
	carries := coder.Enc{Low: 1<<32 - 1, Range: 1 << 24, Out: []byte{1, 255, 255}}
	full := coder.Enc{Low: 1<<32 - 1, Range: 1 << 24, Out: x.bytes(3998)}
	half := coder.Enc{Low: 1<<32 - 1, Range: 1 << 24, Out: x.bytes(3995)}
	for _, e := range append(wrongEncs(), carries, full, half, coder.New(), x.anyEnc()) {
		for range 10 {
			for _, intra := range []bool{false, true} {
				stays(t, e, pair{x.anyGains(), x.anyGains()}, intra)
				stays(t, e, wrong, intra)
			}
		}
	}
}

func TestDecodersKeepTheirBytes(t *testing.T) {
	x := chance(0x3c6ef372fe94f82b)
	for range 300 {
		b := append(x.bytes(5+x.below(10)), 1, 2, 3)
		was := slices.Clone(b)
		d, ahead := coder.Open(b[:len(b)-3]), x.anyGains()
		for range 5 {
			y, first, f := Take(d, ahead, x.below(2) == 0)
			if f != api.OK || len(y.B) != len(d.B) || &y.B[0] != &b[0] || !bytes.Equal(b, was) {
				t.Fatalf("%x: %x, error %d", was, b, f)
			}
			Take(d, []int{45}, false)
			d, ahead = y, first
		}
	}
}

func TestTakenGainsAreNewMemory(t *testing.T) {
	x := chance(0x510e527fade682d1)
	for range 500 {
		d, ahead, intra := coder.Open(x.bytes(9)), x.anyGains(), x.below(2) == 0
		_, first, _ := Take(d, ahead, intra)
		told := slices.Clone(first)
		_, second, _ := Take(d, ahead, intra)
		spoil(second)
		if !slices.Equal(first, told) {
			t.Fatalf("memory is shared")
		}
		spoil(first)
		if _, third, _ := Take(d, ahead, intra); !slices.Equal(third, told) {
			t.Fatalf("%v, and now %v", told, third)
		}
	}
}
