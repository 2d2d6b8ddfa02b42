package cpack

import (
	"bytes"
	"encoding/hex"
	"fmt"
	"math"
	"slices"
	"strings"
	"testing"

	"psaltery/alloc"
	"psaltery/api"
	"psaltery/coder"
	"psaltery/comb"
)

// The tests hold the layer against a row of numbers, worked out from the chapter's words, that package coder puts and takes one by one, and against packets reckoned without any of the layers.

// chance is a row of numbers that do not repeat soon.
type chance uint64

func (x *chance) next() uint64 {
	*x ^= *x << 13
	*x ^= *x >> 7
	*x ^= *x << 17
	return uint64(*x)
}

func (x *chance) below(n int) int {
	return int(x.next() >> 11 % uint64(n))
}

func (x *chance) bytes(n int) []byte {
	b := make([]byte, n)
	for i := range b {
		b[i] = byte(x.next() >> 13)
	}
	return b
}

// anyGains are gains of any kind, edges now and then.
func (x *chance) anyGains() []int {
	g := make([]int, 5)
	for i := range g {
		switch x.below(6) {
		case 0:
			g[i] = x.below(4)
		case 1:
			g[i] = 44 - x.below(4)
		default:
			g[i] = x.below(45)
		}
	}
	return g
}

func (x *chance) anyAhead(chans int) [][]int {
	var out [][]int
	for range chans {
		out = append(out, x.anyGains())
	}
	return out
}

// nearTo are gains of which most are not far from those of g.
func (x *chance) nearTo(g [][]int) [][]int {
	var out [][]int
	for _, one := range g {
		near := slices.Clone(one)
		for i := range near {
			near[i] = min(max(near[i]+x.below(11)-5, 0), 44)
		}
		out = append(out, near)
	}
	return out
}

// anyVector is a pulse vector, now and then the first or the last one in its order.
func (x *chance) anyVector(n, k int) []int {
	y := make([]int, n)
	switch x.below(8) {
	case 0:
		y[n-1] = k
	case 1:
		y[0] = -k
	default:
		for range k {
			y[x.below(n)]++
		}
		for i := range y {
			if x.below(2) == 0 {
				y[i] = -y[i]
			}
		}
	}
	return y
}

type shape struct{ bytes, chans int }

// allShapes are all right ones.
func allShapes() []shape {
	var out []shape
	for bytes := 11; bytes <= 60; bytes++ {
		out = append(out, shape{bytes, 1})
	}
	for bytes := 17; bytes <= 60; bytes++ {
		out = append(out, shape{bytes, 2})
	}
	return out
}

// wrongShapes are none: also such as a narrower integer would take for right.
func wrongShapes() []shape {
	out := []shape{{10, 1}, {0, 1}, {61, 1}, {16, 2}, {11, 2}, {0, 2}, {61, 2}}
	for _, v := range []int{-1, -11, 400, 256 + 20, 65536 + 20, 1 << 32, 1<<32 + 20, -(1 << 32) + 20, 1 << 62, 1<<61 + 20, math.MaxInt, math.MinInt, math.MinInt + 20} {
		out = append(out, shape{v, 1}, shape{v, 2})
	}
	for _, v := range []int{0, -1, -2, 3, 4, 256 + 1, 65536 + 2, 1<<32 + 1, -(1 << 32) + 2, 1 << 62, math.MaxInt, math.MinInt, math.MinInt + 1} {
		out = append(out, shape{20, v}, shape{60, v}, shape{v, v})
	}
	return out
}

// wrongGains are lists that are no gains.
func wrongGains() [][]int {
	out := [][]int{nil, {}, {7}, {7, 7, 7, 7}, {7, 7, 7, 7, 7, 7}, make([]int, 4, 16), make([]int, 256+5)}
	for i, v := range []int{-1, -44, 45, 46, 255, 256 + 7, -256 + 7, 65536 + 7, 1<<32 + 7, 1 << 61, math.MaxInt, math.MinInt, math.MinInt + 7} {
		g := []int{7, 0, 44, 8, 9}
		g[i%5] = v
		out = append(out, g)
	}
	return out
}

var widths = [5]int{1, 1, 2, 4, 8}

func sum(v []int) int {
	out := 0
	for _, x := range v {
		out += max(x, -x)
	}
	return out
}

// noughts are the vectors of a channel without pulses.
func noughts() [][]int {
	return [][]int{{0}, {0}, {0, 0}, {0, 0, 0, 0}, {0, 0, 0, 0, 0, 0, 0, 0}}
}

// packOf is a right pack with these gains.
func (x *chance) packOf(t *testing.T, s shape, g [][]int, intra bool) Pack {
	t.Helper()
	k, e := alloc.Pulses(s.bytes, s.chans, g)
	if e != api.OK {
		t.Fatalf("%v, gains %v: error %d", s, g, e)
	}
	p := Pack{Intra: intra, G: g}
	for _, one := range k {
		var y [][]int
		for b, n := range one {
			y = append(y, x.anyVector(widths[b], n))
		}
		p.Y = append(p.Y, y)
	}
	return p
}

// pair is a pack and the gains ahead of it.
type pair struct {
	shape
	p     Pack
	ahead [][]int
}

// somePairs are right packs of all shapes, n of each: near those ahead, and far from them.
func somePairs(t *testing.T, x chance, n int) []pair {
	var out []pair
	for _, s := range allShapes() {
		for i := range n {
			ahead := x.anyAhead(s.chans)
			g := x.anyAhead(s.chans)
			if i%2 == 0 {
				g = x.nearTo(ahead)
			}
			out = append(out, pair{s, x.packOf(t, s, g, x.below(3) == 0), ahead})
		}
	}
	return out
}

// number is one of n.
type number struct{ v, n uint64 }

// numbersOf are what is put for a pack.
func numbersOf(p Pack, ahead [][]int) []number {
	out := []number{{0, 2}}
	if p.Intra {
		out[0].v = 1
	}
	for c, g := range p.G {
		for b, v := range g {
			if p.Intra {
				out = append(out, number{uint64(v), 45})
				continue
			}
			switch v - ahead[c][b] {
			case -3, -2, -1, 0, 1, 2, 3:
				out = append(out, number{uint64(v - ahead[c][b] + 3), 8})
			default:
				out = append(out, number{7, 8}, number{uint64(v), 45})
			}
		}
	}
	for _, y := range p.Y {
		for _, v := range y {
			if sum(v) > 0 {
				i, _ := comb.Index(v)
				n, _ := comb.Count(len(v), sum(v))
				out = append(out, number{i, n})
			}
		}
	}
	return out
}

// modelWrite puts the numbers one by one.
func modelWrite(t *testing.T, size int, all []number) []byte {
	t.Helper()
	e := coder.New()
	for _, one := range all {
		var f api.Errno
		if e, f = coder.PutNum(e, one.v, one.n); f != api.OK {
			t.Fatalf("%v: error %d", one, f)
		}
	}
	b := coder.Finish(e)
	// P13.6
	if len(b) > size {
		t.Fatalf("%d bytes in a packet of %d: %v", len(b), size, all)
	}
	for len(b) < size {
		b = append(b, 0)
	}
	return b
}

// taker takes numbers one by one.
type taker struct{ d coder.Dec }

func (r *taker) take(n uint64) int {
	d, v, _ := coder.TakeNum(r.d, n)
	r.d = d
	return int(v)
}

func (r *taker) gainAgainst(ahead int) int {
	if k := r.take(8); k < 7 {
		return min(max(ahead-3+k, 0), 44)
	}
	return r.take(45)
}

// modelRead takes what any bytes say.
func modelRead(s shape, b []byte, ahead [][]int) Pack {
	r := &taker{coder.Open(b)}
	p := Pack{Intra: r.take(2) == 1}
	for c := range s.chans {
		var g []int
		for i := range 5 {
			if p.Intra {
				g = append(g, r.take(45))
			} else {
				g = append(g, r.gainAgainst(ahead[c][i]))
			}
		}
		p.G = append(p.G, g)
	}
	k, _ := alloc.Pulses(s.bytes, s.chans, p.G)
	for c := range s.chans {
		y := noughts()
		for i, n := range k[c] {
			if n > 0 {
				all, _ := comb.Count(widths[i], n)
				y[i], _ = comb.Vector(widths[i], n, uint64(r.take(all)))
			}
		}
		p.Y = append(p.Y, y)
	}
	return p
}

func same(a, b Pack) bool {
	return a.Intra == b.Intra && sameLists(a.G, b.G) && slices.EqualFunc(a.Y, b.Y, sameLists)
}

func sameLists(a, b [][]int) bool {
	return slices.EqualFunc(a, b, slices.Equal[[]int])
}

func clone(p Pack) Pack {
	out := Pack{Intra: p.Intra, G: cloneLists(p.G)}
	for _, y := range p.Y {
		out.Y = append(out.Y, cloneLists(y))
	}
	return out
}

func cloneLists(l [][]int) [][]int {
	var out [][]int
	for _, one := range l {
		out = append(out, slices.Clone(one))
	}
	return out
}

func writeIs(t *testing.T, s shape, p Pack, ahead [][]int, want []byte) {
	t.Helper()
	if b, e := Write(s.bytes, s.chans, p, ahead); !bytes.Equal(b, want) || e != api.OK {
		t.Fatalf("%v, %v against %v: %x, error %d; want %x", s, p, ahead, b, e, want)
	}
}

func readIs(t *testing.T, s shape, b []byte, ahead [][]int, want Pack) {
	t.Helper()
	if p, e := Read(s.bytes, s.chans, b, ahead); !same(p, want) || e != api.OK {
		t.Fatalf("%v, %x against %v: %v, error %d; want %v", s, b, ahead, p, e, want)
	}
}

func writeFails(t *testing.T, s shape, p Pack, ahead [][]int) {
	t.Helper()
	if b, e := Write(s.bytes, s.chans, p, ahead); len(b) != 0 || e != api.ErrArg {
		t.Errorf("%v, %.200s against %.100s: %x, error %d", s, fmt.Sprint(p), fmt.Sprint(ahead), b, e)
	}
}

func readFails(t *testing.T, s shape, b []byte, ahead [][]int, want api.Errno) {
	t.Helper()
	if p, e := Read(s.bytes, s.chans, b, ahead); p.Intra || p.G != nil || p.Y != nil || e != want {
		t.Errorf("%v, %d bytes against %.100s: %v, error %d; want %d", s, len(b), fmt.Sprint(ahead), p, e, want)
	}
}

// Packets reckoned without any of the layers: all that they say as one long number, with an end of noughts.

type row struct {
	shape
	p     Pack
	ahead [][]int
	hex   string
}

// packet answers a row's bytes: noughts behind those that are told.
func (r row) packet(t *testing.T) []byte {
	t.Helper()
	b, e := hex.DecodeString(r.hex)
	if e != nil || len(b) > r.bytes {
		t.Fatalf("%s: %v", r.hex, e)
	}
	return append(b, make([]byte, r.bytes-len(b))...)
}

func rowsByHand() []row {
	return []row{
		// 1 of 2, then 0 of 45 five times: Low stays 7fffffff.
		{shape{11, 1}, Pack{true, [][]int{{0, 0, 0, 0, 0}}, [][][]int{noughts()}}, nil, "7fffffff000000"},
		// 3 3 3 3 3 of 8, then the numbers 0 and 1, of 2 each.
		{shape{11, 1}, Pack{false, [][]int{{7, 7, 7, 7, 7}}, [][][]int{{{1}, {-1}, {0, 0}, {0, 0, 0, 0}, {0, 0, 0, 0, 0, 0, 0, 0}}}}, [][]int{{7, 7, 7, 7, 7}}, "36db3ff69300"},
		{shape{11, 1}, Pack{true, [][]int{{9, 0, 0, 0, 0}}, [][][]int{{{-1}, {0}, {0, 0}, {0, 0, 0, 0}, {0, 0, 0, 0, 0, 0, 0, 0}}}}, nil, "99999996d19f80"},
		// A gain that is 4 more is put by itself, one that is 3 less isn't.
		{shape{11, 1}, Pack{false, [][]int{{0, 0, 9, 0, 0}}, [][][]int{{{0}, {0}, {-1, 0}, {0, 0, 0, 0}, {0, 0, 0, 0, 0, 0, 0, 0}}}}, [][]int{{0, 0, 5, 0, 3}}, "37cd598dd3a0"},
		{shape{12, 1}, Pack{true, [][]int{{0, 0, 10, 10, 0}}, [][][]int{{{0}, {0}, {1, -1}, {0, -2, 0, 1}, {0, 0, 0, 0, 0, 0, 0, 0}}}}, nil, "8003ad082d0f2000"},
		// The gains of both channels stand ahead of the pulses of the first one.
		{shape{17, 2}, Pack{true, [][]int{{9, 0, 0, 0, 0}, {0, 0, 9, 0, 0}}, [][][]int{{{-1}, {0}, {0, 0}, {0, 0, 0, 0}, {0, 0, 0, 0, 0, 0, 0, 0}}, {{0}, {0}, {0, 1}, {0, 0, 0, 0}, {0, 0, 0, 0, 0, 0, 0, 0}}}}, nil, "99999991004b54426f8e00"},
		{shape{17, 2}, Pack{false, [][]int{{9, 9, 9, 9, 9}, {1, 2, 3, 4, 5}}, [][][]int{{{1}, {-1}, {0, 0}, {0, 0, 0, 0}, {0, 0, 0, 0, 0, 0, 0, 0}}, {{0}, {0}, {0, -1}, {0, 0, 0, 0}, {0, 0, 0, 0, 0, 0, 0, 0}}}}, [][]int{{6, 12, 5, 13, 9}, {44, 0, 0, 40, 2}}, "61ce14ecbc0ff51024b400"},
		// Numbers above 65536 are put in two halves.
		{shape{60, 1}, Pack{true, [][]int{{44, 44, 44, 44, 44}}, [][][]int{{{-1}, {1}, {-5, 7}, {3, -3, -3, 3}, {1, -1, 2, -2, 0, 3, -3, 0}}}}, nil, "fffffffa6d18c146bc8a0000"},
		{shape{60, 2}, Pack{false, [][]int{{1, 1, 1, 1, 1}, {44, 44, 44, 44, 44}}, [][][]int{{{1}, {1}, {12, 0}, {0, 0, 0, -12}, {-12, 0, 0, 0, 0, 0, 0, 0}}, {{1}, {1}, {0, 12}, {0, 0, 0, 12}, {0, 0, 0, 0, 0, 0, 0, 12}}}}, [][]int{{44, 44, 44, 44, 44}, {0, 0, 0, 0, 0}}, "70ab2456743ff07ffffffcc7f024e5b38a00000000000000"},
	}
}

// P13.1: Right.

func TestRightByHand(t *testing.T) {
	for _, r := range rowsByHand() {
		for _, intra := range []bool{false, true} {
			p := clone(r.p)
			p.Intra = intra
			if !Right(r.bytes, r.chans, p) {
				t.Errorf("%v: %v is not right", r.shape, p)
			}
		}
	}
	// In a greater packet there is room for more, so that a pack of a smaller one isn't right.
	p := rowsByHand()[1].p
	if Right(12, 1, p) || Right(60, 1, p) || Right(17, 2, p) {
		t.Errorf("%v is right for other shapes", p)
	}
	// Without gains there are no pulses in any.
	p = rowsByHand()[0].p
	for _, s := range allShapes() {
		if Right(s.bytes, s.chans, p) != (s.chans == 1) {
			t.Errorf("%v: %v", s, p)
		}
	}
}

func TestRightOfAny(t *testing.T) {
	for _, r := range somePairs(t, 0x9e3779b97f4a7c15, 12) {
		if !Right(r.bytes, r.chans, r.p) {
			t.Fatalf("%v: %v is not right", r.shape, r.p)
		}
	}
}

// faulty makes a pack that isn't right of each right one that it takes.
type faulty func(p Pack)

// wrongLists puts lists that are no gains in the place of those of channel c.
func wrongLists(c int) []faulty {
	var out []faulty
	for _, g := range wrongGains() {
		out = append(out, func(p Pack) { p.G[c] = g })
	}
	return out
}

// wrongVectors puts other vectors in the place of those of channel c: other places, other pulses, also such as come to the right sum when they wrap round.
func wrongVectors(c int) []faulty {
	var out []faulty
	for b, n := range widths {
		band := func(change func(v []int) []int) {
			out = append(out, func(p Pack) { p.Y[c][b] = change(p.Y[c][b]) })
		}
		band(func(v []int) []int { return nil })
		band(func(v []int) []int { return v[:n-1] })
		band(func(v []int) []int { return append(slices.Clone(v), 0) })
		band(func(v []int) []int { return append(slices.Clone(v), make([]int, 256)...) })
		band(func(v []int) []int { return append(slices.Clone(v), make([]int, 65536)...) })
		for _, more := range []int{1, -1, 2, 13, 256, -256, 65536, 1 << 32, -(1 << 32), 1 << 62, math.MinInt} {
			band(func(v []int) []int { v[n-1] += more; return v })
			band(func(v []int) []int { v[0] -= more; return v })
		}
		if n >= 2 {
			band(func(v []int) []int { return wrap(v, math.MinInt, math.MinInt) })
		}
		if n >= 4 {
			band(func(v []int) []int { return wrap(v, math.MaxInt, math.MaxInt, 1, 1) })
			band(func(v []int) []int { return wrap(v, 1<<62, 1<<62, -(1 << 62), 1<<62) })
		}
	}
	return out
}

// wrap puts integers ahead of a vector whose pulses stand at its end.
func wrap(v []int, ahead ...int) []int {
	out := make([]int, len(v))
	out[len(v)-1] = sum(v)
	for i, x := range ahead {
		out[i] += x
	}
	return out
}

// othersOf has pulses of one band in another one, and bands in each other's place.
func othersOf(c int) []faulty {
	var out []faulty
	for b := range 4 {
		out = append(out, func(p Pack) { p.Y[c][b], p.Y[c][b+1] = p.Y[c][b+1], p.Y[c][b] })
	}
	return append(out,
		func(p Pack) { p.Y[c] = nil },
		func(p Pack) { p.Y[c] = p.Y[c][:4] },
		func(p Pack) { p.Y[c] = p.Y[c][1:] },
		func(p Pack) { p.Y[c] = append(p.Y[c], []int{0}) },
		func(p Pack) { p.Y[c] = append(p.Y[c], nil) },
		func(p Pack) { p.Y[c] = append([][]int{{0}}, p.Y[c]...) },
	)
}

// wrongPacks are packs with one fault each, made of a right one; a change that leaves as many pulses is none, and is left out.
func wrongPacks(p Pack) []Pack {
	var all []faulty
	for c := range p.G {
		all = append(all, wrongLists(c)...)
		all = append(all, wrongVectors(c)...)
		all = append(all, othersOf(c)...)
	}
	var out []Pack
	for _, spoil := range all {
		q := clone(p)
		spoil(q)
		if !sameSums(p, q) {
			out = append(out, q)
		}
	}
	long, short := len(p.G)+1, len(p.G)-1
	gains := slices.Repeat([][]int{{0, 0, 0, 0, 0}}, 300)
	silent := slices.Repeat([][][]int{noughts()}, 300)
	return append(out,
		Pack{p.Intra, nil, p.Y}, Pack{p.Intra, p.G, nil}, Pack{p.Intra, nil, nil},
		Pack{p.Intra, p.G[:short], p.Y}, Pack{p.Intra, p.G, p.Y[:short]}, Pack{p.Intra, p.G[:short], p.Y[:short]},
		Pack{p.Intra, append(cloneLists(p.G), gains...)[:long], p.Y}, Pack{p.Intra, p.G, append(clone(p).Y, silent...)[:long]},
		Pack{p.Intra, append(cloneLists(p.G), gains...)[:long+1], append(clone(p).Y, silent...)[:long+1]},
		Pack{p.Intra, append(cloneLists(p.G), gains...), append(clone(p).Y, silent...)},
		Pack{p.Intra, gains[:256+len(p.G)], silent[:256+len(p.G)]},
	)
}

// sameSums: do all vectors of two packs have the same places and pulses, and are the gains the same?
func sameSums(p, q Pack) bool {
	alike := func(v, w []int) bool {
		small := !slices.ContainsFunc(w, func(x int) bool { return x < -12 || x > 12 })
		return small && len(v) == len(w) && sum(v) == sum(w)
	}
	return sameLists(p.G, q.G) && slices.EqualFunc(p.Y, q.Y, func(a, b [][]int) bool { return slices.EqualFunc(a, b, alike) })
}

func TestWrongPacks(t *testing.T) {
	var rows []pair
	for i, r := range somePairs(t, 0xd1342543de82ef95, 1) {
		if i%8 == 0 {
			rows = append(rows, r)
		}
	}
	for _, r := range rowsByHand() {
		rows = append(rows, pair{r.shape, r.p, r.ahead})
	}
	for _, r := range rows {
		all := wrongPacks(r.p)
		if len(all) < 80*r.chans {
			t.Fatalf("%v: %d wrong packs", r.shape, len(all))
		}
		for _, p := range all {
			if Right(r.bytes, r.chans, p) {
				t.Fatalf("%v: %.300s is right", r.shape, fmt.Sprint(p))
			}
			writeFails(t, r.shape, p, r.ahead)
		}
	}
}

// Each pulse is where the gains say: more of one and less of another band is not right, though it costs no more.
func TestPulsesOfOtherBandsAreWrong(t *testing.T) {
	g := [][]int{{0, 0, 10, 10, 0}}
	for k := range 13 {
		for n := range 13 {
			p := Pack{true, g, [][][]int{{{0}, {0}, {k, 0}, {0, 0, n, 0}, {0, 0, 0, 0, 0, 0, 0, 0}}}}
			if Right(12, 1, p) != (k == 2 && n == 3) {
				t.Errorf("%d and %d pulses: right is %v", k, n, Right(12, 1, p))
			}
		}
	}
}

func TestWrongShapes(t *testing.T) {
	x := chance(0x94d049bb133111eb)
	for _, s := range wrongShapes() {
		for _, r := range rowsByHand() {
			if Right(s.bytes, s.chans, r.p) {
				t.Errorf("%v: %v is right", s, r.p)
			}
			writeFails(t, s, r.p, x.anyAhead(r.chans))
		}
		// A pack of as many channels, where a list may have so many.
		p := Pack{Intra: true}
		for range min(max(s.chans, 0), 300) {
			p.G, p.Y = append(p.G, make([]int, 5)), append(p.Y, noughts())
		}
		if Right(s.bytes, s.chans, p) {
			t.Errorf("%v: silence is right", s)
		}
		writeFails(t, s, p, p.G)
		if Right(s.bytes, s.chans, Pack{}) {
			t.Errorf("%v: the zero pack is right", s)
		}
		writeFails(t, s, Pack{}, nil)
		// The shape is asked ahead of the bytes and of the gains ahead.
		for _, b := range [][]byte{nil, x.bytes(20), x.bytes(60), x.bytes(min(max(s.bytes, 0), 500))} {
			readFails(t, s, b, x.anyAhead(2), api.ErrArg)
			readFails(t, s, b, x.anyAhead(min(max(s.chans, 0), 300)), api.ErrArg)
			readFails(t, s, b, nil, api.ErrArg)
		}
	}
}

// P13.1: Write.

func TestWriteByHand(t *testing.T) {
	for _, r := range rowsByHand() {
		writeIs(t, r.shape, r.p, r.ahead, r.packet(t))
	}
}

func TestWriteAny(t *testing.T) {
	kinds := map[bool]int{}
	for _, r := range somePairs(t, 0x5851f42d4c957f2d, 30) {
		writeIs(t, r.shape, r.p, r.ahead, modelWrite(t, r.bytes, numbersOf(r.p, r.ahead)))
		kinds[r.p.Intra]++
	}
	if kinds[true] < 500 || kinds[false] < 500 {
		t.Errorf("intra and not: %v", kinds)
	}
}

// Each gain against each other one.
func TestWriteGainsAgainstAll(t *testing.T) {
	x := chance(0xda942042e4dd58b5)
	for gain := range 45 {
		for other := range 45 {
			s := shape{17 + (gain+other)%44, 1 + gain%2}
			g, ahead := x.anyAhead(s.chans), x.anyAhead(s.chans)
			c, b := other%s.chans, (gain+2*other)%5
			g[c][b], ahead[c][b] = gain, other
			p := x.packOf(t, s, g, false)
			want := modelWrite(t, s.bytes, numbersOf(p, ahead))
			writeIs(t, s, p, ahead, want)
			readIs(t, s, want, ahead, p)
		}
	}
}

// aheadWrong are lists that are not gains of each of so many channels.
func (x *chance) aheadWrong(chans int) [][][]int {
	out := [][][]int{nil, {}, x.anyAhead(chans - 1), x.anyAhead(chans + 1), x.anyAhead(256 + chans), make([][]int, chans), x.anyAhead(3 - chans), x.anyAhead(chans)[:chans-1]}
	for _, g := range wrongGains() {
		for c := range chans {
			l := x.anyAhead(chans)
			l[c] = g
			out = append(out, l)
		}
	}
	return out
}

func TestWriteAgainstWrong(t *testing.T) {
	x := chance(0x2545f4914f6cdd1d)
	for _, r := range somePairs(t, 0x27d4eb2f165667c5, 1) {
		for _, ahead := range x.aheadWrong(r.chans) {
			p := r.p
			p.Intra = false
			writeFails(t, r.shape, p, ahead)
			p.Intra = true
			writeIs(t, r.shape, p, ahead, modelWrite(t, r.bytes, numbersOf(p, nil)))
		}
	}
}

// P13.2: Read.

func TestReadByHand(t *testing.T) {
	for _, r := range rowsByHand() {
		readIs(t, r.shape, r.packet(t), r.ahead, r.p)
	}
}

func TestReadBytesThatNoneWrote(t *testing.T) {
	last := [][]int{{-1}, {-1}, {-12, 0}, {-12, 0, 0, 0}, {-12, 0, 0, 0, 0, 0, 0, 0}}
	first := [][]int{{1}, {0}, {0, 0}, {0, 0, 0, 12}, {0, 0, 0, 0, 0, 0, 0, 12}}
	one := [][]int{{1}, {0}, {0, 0}, {0, 0, 0, 0}, {0, 0, 0, 0, 0, 0, 0, 0}}
	full := []int{44, 44, 44, 44, 44}
	ahead, less := []int{9, 2, 3, 4, 44}, []int{6, 0, 0, 1, 41}
	ones, zeros := strings.Repeat("ff", 60), strings.Repeat("00", 60)
	mixed := "123456789abcdef0123456789abcdef0123456789abcdef0" + zeros
	rows := []row{
		{shape{11, 1}, Pack{true, [][]int{full}, [][][]int{{{-1}, {-1}, {0, 0}, {0, 0, 0, 0}, {0, 0, 0, 0, 0, 0, 0, 0}}}}, nil, ones},
		{shape{12, 1}, Pack{true, [][]int{full}, [][][]int{{{-1}, {-1}, {-2, 0}, {-2, 0, 0, 0}, {0, 0, 0, 0, 0, 0, 0, 0}}}}, nil, ones},
		{shape{60, 1}, Pack{true, [][]int{full}, [][][]int{last}}, nil, ones},
		{shape{60, 2}, Pack{true, [][]int{full, full}, [][][]int{last, last}}, nil, ones},
		{shape{11, 1}, Pack{false, [][]int{less}, [][][]int{one}}, [][]int{ahead}, zeros},
		{shape{12, 1}, Pack{false, [][]int{less}, [][][]int{{{0}, {0}, {0, 0}, {0, 0, 0, 0}, {0, 0, 0, 0, 0, 0, 0, 3}}}}, [][]int{ahead}, zeros},
		{shape{17, 2}, Pack{false, [][]int{less, less}, [][][]int{one, one}}, [][]int{ahead, ahead}, zeros},
		{shape{60, 1}, Pack{false, [][]int{less}, [][][]int{first}}, [][]int{ahead}, zeros},
		{shape{60, 2}, Pack{false, [][]int{less, less}, [][][]int{first, first}}, [][]int{ahead, ahead}, zeros},
		{shape{12, 1}, Pack{false, [][]int{{7, 0, 0, 7, 44}}, [][][]int{{{0}, {0}, {0, 0}, {0, 0, 0, 0}, {0, 0, -1, 0, 0, -1, 0, 1}}}}, [][]int{ahead}, mixed},
		{shape{60, 1}, Pack{false, [][]int{{7, 0, 0, 7, 44}}, [][][]int{{{1}, {0}, {0, 0}, {4, 3, 4, 1}, {2, 0, 1, 3, 2, 1, 0, 3}}}}, [][]int{ahead}, mixed},
		{shape{60, 2}, Pack{false, [][]int{{7, 0, 0, 7, 44}, {8, 4, 4, 32, 42}}, [][][]int{{{1}, {0}, {0, 0}, {0, 0, 0, 12}, {-1, -1, -2, 1, 1, 5, 1, 0}}, {{-1}, {1}, {-4, -8}, {2, -4, 2, -4}, {1, 0, 3, -2, 0, -3, 3, 0}}}}, [][]int{ahead, ahead}, mixed},
	}
	for _, r := range rows {
		r.hex = r.hex[:2*r.bytes]
		readIs(t, r.shape, r.packet(t), r.ahead, r.p)
	}
}

func TestReadOfOtherNumbersOfBytes(t *testing.T) {
	x := chance(0xff51afd7ed558ccd)
	for _, s := range allShapes() {
		for _, n := range []int{0, 1, s.bytes - 1, s.bytes + 1, 2 * s.bytes, 256 + s.bytes, 65536 + s.bytes} {
			b := x.bytes(n)
			readFails(t, s, b, x.anyAhead(s.chans), api.ErrForm)
			// Neither what is ahead, nor whether the bytes are intra, is asked then.
			readFails(t, s, b, nil, api.ErrForm)
			readFails(t, s, slices.Repeat([]byte{255}, n), nil, api.ErrForm)
		}
		readFails(t, s, make([]byte, s.bytes-1, s.bytes), x.anyAhead(s.chans), api.ErrForm)
	}
}

func TestReadAgainstWrong(t *testing.T) {
	x := chance(0xc4ceb9fe1a85ec53)
	for _, s := range allShapes() {
		for _, ahead := range x.aheadWrong(s.chans) {
			b := x.bytes(s.bytes)
			b[0] &= 0x7f
			readFails(t, s, b, ahead, api.ErrArg)
			b[0] |= 0x80
			readIs(t, s, b, ahead, modelRead(s, b, nil))
		}
	}
}

// The first half of all there is is not intra, and the border lies at 7fffffff.
func TestReadAtTheBorderOfKinds(t *testing.T) {
	for _, s := range allShapes() {
		b := make([]byte, s.bytes)
		copy(b, []byte{0x7f, 0xff, 0xff, 0xfe, 0xff})
		readFails(t, s, b, nil, api.ErrArg)
		b[3] = 0xff
		readIs(t, s, b, nil, modelRead(s, b, nil))
		if p, _ := Read(s.bytes, s.chans, b, nil); !p.Intra {
			t.Errorf("%v: %x is not intra", s, b)
		}
	}
}

// What follows.

// tightGains are gains by which most of the room is spent, or all of them are far from those ahead.
func (x *chance) tightGains(chans int) (g, ahead [][]int) {
	for range chans {
		var one, other []int
		for range 5 {
			v := 30 + x.below(15)
			one, other = append(one, v), append(other, v-5-x.below(20))
		}
		g, ahead = append(g, one), append(ahead, other)
	}
	return g, ahead
}

// P13.3
func TestWrittenIsRead(t *testing.T) {
	rows := somePairs(t, 0xa3b195354a39b70d, 30)
	x := chance(0xe7037ed1a0b428db)
	for _, s := range allShapes() {
		for range 10 {
			g, ahead := x.tightGains(s.chans)
			rows = append(rows, pair{s, x.packOf(t, s, g, x.below(4) == 0), ahead})
		}
	}
	for _, r := range rows {
		b, e := Write(r.bytes, r.chans, r.p, r.ahead)
		if e != api.OK || len(b) != r.bytes {
			t.Fatalf("%v, %v: %d bytes, error %d", r.shape, r.p, len(b), e)
		}
		readIs(t, r.shape, b, r.ahead, r.p)
	}
}

// P13.3: each vector of the smaller bands, and the first and last ones of all that there may be.
func TestAllVectorsAreRead(t *testing.T) {
	for _, s := range []shape{{11, 1}, {13, 1}, {20, 1}, {60, 1}} {
		for b, n := range widths {
			p := Pack{true, [][]int{make([]int, 5)}, [][][]int{noughts()}}
			p.G[0][b] = 9
			k, _ := alloc.Pulses(s.bytes, s.chans, p.G)
			all, _ := comb.Count(n, k[0][b])
			for i := uint64(0); i < all; i++ {
				if i == 300 && all > 600 {
					i = all - 300
				}
				p.Y[0][b], _ = comb.Vector(n, k[0][b], i)
				packet, e := Write(s.bytes, s.chans, p, nil)
				if e != api.OK {
					t.Fatalf("%v, %v: error %d", s, p, e)
				}
				readIs(t, s, packet, nil, p)
			}
		}
	}
}

// P13.3: a row of packets, each against the gains of the one ahead.
func TestRowsOfPacketsAreRead(t *testing.T) {
	x := chance(0x8ebc6af09c88c6e3)
	for _, s := range allShapes() {
		ahead, heard := x.anyAhead(s.chans), [][]int(nil)
		for i := range 20 {
			p := x.packOf(t, s, x.nearTo(ahead), i == 0 || x.below(6) == 0)
			b, e := Write(s.bytes, s.chans, p, ahead)
			q, f := Read(s.bytes, s.chans, b, heard)
			if e != api.OK || f != api.OK || !same(p, q) {
				t.Fatalf("%v, packet %d, %v: %v, errors %d, %d", s, i, p, q, e, f)
			}
			ahead, heard = p.G, q.G
		}
	}
}

// P13.4: and what is read is what is taken number by number; written again it is the same pack.
func TestAnyBytesAreRead(t *testing.T) {
	x := chance(0x589965cc75374cc3)
	kinds := map[bool]int{}
	for _, s := range allShapes() {
		for i := range 20 {
			b := x.bytes(s.bytes)
			switch i % 10 {
			case 0:
				b = slices.Repeat([]byte{255}, s.bytes)
				b[0] = byte(x.next())
			case 1:
				b = make([]byte, s.bytes)
				b[0] = byte(x.next())
			}
			ahead := x.anyAhead(s.chans)
			p, e := Read(s.bytes, s.chans, b, ahead)
			if e != api.OK || !Right(s.bytes, s.chans, p) || !same(p, modelRead(s, b, ahead)) {
				t.Fatalf("%v, %x against %v: %v, error %d", s, b, ahead, p, e)
			}
			again, e := Write(s.bytes, s.chans, p, ahead)
			if e != api.OK {
				t.Fatalf("%v, %v: error %d", s, p, e)
			}
			readIs(t, s, again, ahead, p)
			kinds[p.Intra]++
		}
	}
	if kinds[true] < 500 || kinds[false] < 500 {
		t.Errorf("intra and not: %v", kinds)
	}
}

// P13.5: and those that are not intra are seen to hang on what is ahead, so that the test has something to hold.
func TestIntraHangsOnNothingAhead(t *testing.T) {
	x := chance(0xb5297a4d3f84d5b5)
	others := 0
	for _, r := range somePairs(t, 0x1b56c4e9a3d1f7a5, 5) {
		all := [][][]int{r.ahead, x.anyAhead(r.chans), x.anyAhead(r.chans), nil, {{1, 2}}, {{-5, 99, 3, 1 << 40, 0}}, x.anyAhead(7)}
		r.p.Intra = true
		want, e := Write(r.bytes, r.chans, r.p, nil)
		if e != api.OK {
			t.Fatalf("%v, %v: error %d", r.shape, r.p, e)
		}
		for _, ahead := range all {
			writeIs(t, r.shape, r.p, ahead, want)
			readIs(t, r.shape, want, ahead, r.p)
		}
		r.p.Intra = false
		a, e := Write(r.bytes, r.chans, r.p, all[0])
		b, f := Write(r.bytes, r.chans, r.p, all[1])
		if e != api.OK || f != api.OK {
			t.Fatalf("%v, %v: errors %d, %d", r.shape, r.p, e, f)
		}
		if !bytes.Equal(a, b) {
			others++
		}
	}
	if others < 400 {
		t.Errorf("%d were others against others", others)
	}
}

// P13.6: modelWrite tells of a pack that is longer. Here are those that ask for most: all gains by themselves behind a choice, and all of the room spent.
func TestNoPackIsLonger(t *testing.T) {
	x := chance(0x3c6ef372fe94f82b)
	spent := 0
	for _, s := range allShapes() {
		for range 25 {
			g, ahead := x.tightGains(s.chans)
			p := x.packOf(t, s, g, false)
			all := numbersOf(p, ahead)
			if len(all) < 1+10*s.chans {
				t.Fatalf("%v: %d numbers", s, len(all))
			}
			want := modelWrite(t, s.bytes, all)
			writeIs(t, s, p, ahead, want)
			readIs(t, s, want, ahead, p)
			if cost(p.Y[0]) == alloc.Room(s.bytes, s.chans) {
				spent++
			}
		}
	}
	if spent < 300 {
		t.Errorf("%d times all of the room was spent", spent)
	}
}

// cost is what a channel's vectors cost.
func cost(y [][]int) int {
	out := 0
	for _, v := range y {
		bits, _ := comb.Cost(len(v), sum(v))
		out += bits
	}
	return out
}

// R1: arguments of no shape at all.

// anyInt is small, or one at an edge.
func (x *chance) anyInt() int {
	edges := []int{math.MinInt, math.MaxInt, -1, 13, 1 << 32, 1<<62 + 1, 45}
	if x.below(6) == 0 {
		return edges[x.below(len(edges))]
	}
	return x.below(5)
}

func (x *chance) anyInts() []int {
	var out []int
	for range x.below(10) {
		out = append(out, x.anyInt())
	}
	return out
}

func (x *chance) anyLists() [][]int {
	var out [][]int
	for range x.below(7) {
		out = append(out, x.anyInts())
	}
	return out
}

func TestArgumentsOfAnyKind(t *testing.T) {
	x := chance(0x510e527fade682d1)
	for range 20000 {
		p := Pack{Intra: x.below(2) == 0, G: x.anyLists()}
		if x.below(2) == 0 {
			p.G = x.anyAhead(1 + x.below(2))
		}
		for range x.below(4) {
			p.Y = append(p.Y, x.anyLists())
		}
		s := shape{10 + x.below(52), x.below(4)}
		if x.below(20) == 0 {
			s = shape{x.anyInt(), x.anyInt()}
		}
		ahead := x.anyLists()
		// Such lists are hardly ever gains, so that only an intra pack that is right is sure to be written.
		right := Right(s.bytes, s.chans, p)
		b, e := Write(s.bytes, s.chans, p, ahead)
		if e == api.OK && (!right || len(b) != s.bytes) || e == api.ErrArg && len(b) != 0 || e != api.OK && e != api.ErrArg || p.Intra && right != (e == api.OK) {
			t.Fatalf("%v, %v: right is %v, %x, error %d", s, p, right, b, e)
		}
		q, e := Read(s.bytes, s.chans, x.bytes(10+x.below(52)), ahead)
		if e == api.OK && !Right(s.bytes, s.chans, q) || e != api.OK && (q.G != nil || q.Y != nil || q.Intra) {
			t.Fatalf("%v: %v, error %d", s, q, e)
		}
	}
}

// R3: what is handed in stays as it is, its spare room too, and what is answered is new memory. R4: what was done with an answer is not to be seen in the next one.

// spoil writes over a list and its spare room.
func spoil[T int | byte](list []T) {
	for i := range list[:cap(list)] {
		list[:cap(list)][i] ^= 0x2a
	}
}

// listsOf are all lists of integers that a pack has.
func listsOf(p Pack) [][]int {
	out := slices.Clone(p.G)
	for _, y := range p.Y {
		out = append(out, y...)
	}
	return out
}

// roomy answers lists with spare room, both the list and those in it, and all of it to look at.
func roomy(l [][]int) (in, whole [][]int) {
	for _, one := range append(cloneLists(l), []int{8, 8}, []int{9}) {
		whole = append(whole, append(one, 3, -3))
	}
	in = slices.Clone(whole)
	for i := range l {
		in[i] = in[i][:len(l[i])]
	}
	return in[:len(l)], whole
}

func TestWhatIsHandedInStays(t *testing.T) {
	for _, r := range somePairs(t, 0xbb67ae8584caa73b, 6) {
		packet := modelWrite(t, r.bytes, numbersOf(r.p, r.ahead))
		g, wholeG := roomy(r.p.G)
		ahead, wholeAhead := roomy(r.ahead)
		p, wholeY := Pack{Intra: r.p.Intra, G: g}, [][][]int(nil)
		for _, y := range r.p.Y {
			in, whole := roomy(y)
			p.Y, wholeY = append(p.Y, in), append(wholeY, whole)
		}
		b := append(slices.Clone(packet), 1, 2, 3)
		tell := func() string {
			return fmt.Sprint(p, g[:cap(g)], ahead[:cap(ahead)], wholeG, wholeAhead, wholeY, b)
		}
		was := tell()
		Right(r.bytes, r.chans, p)
		out, _ := Write(r.bytes, r.chans, p, ahead)
		spoil(out)
		q, _ := Read(r.bytes, r.chans, b[:r.bytes], ahead)
		for _, list := range listsOf(q) {
			spoil(list)
		}
		Read(r.bytes, r.chans, b, ahead)
		Write(r.bytes, r.chans, Pack{Intra: p.Intra, G: p.G}, ahead)
		if now := tell(); now != was {
			t.Fatalf("%v: %s, and now %s", r.shape, was, now)
		}
	}
}

func TestPacketsAreNewMemory(t *testing.T) {
	for _, r := range somePairs(t, 0x3c6ef372a54ff53a, 6) {
		first, _ := Write(r.bytes, r.chans, r.p, r.ahead)
		told := slices.Clone(first)
		second, _ := Write(r.bytes, r.chans, r.p, r.ahead)
		spoil(second)
		if !bytes.Equal(first, told) {
			t.Fatalf("%v: memory is shared", r.shape)
		}
		writeIs(t, r.shape, r.p, r.ahead, told)
	}
}

// No two lists of an answer share memory, and none shares it with what is handed in, then or later.
func TestPacksAreNewMemory(t *testing.T) {
	for _, r := range somePairs(t, 0x9b05688c2b3e6c1f, 6) {
		packet := modelWrite(t, r.bytes, numbersOf(r.p, r.ahead))
		first, _ := Read(r.bytes, r.chans, packet, r.ahead)
		second, _ := Read(r.bytes, r.chans, packet, r.ahead)
		lists, told := listsOf(second), cloneLists(listsOf(second))
		if len(lists) != 6*r.chans {
			t.Fatalf("%v: %d lists", r.shape, len(lists))
		}
		for i, list := range lists {
			spoil(list)
			if !sameLists(lists[i+1:], told[i+1:]) || !same(first, r.p) {
				t.Fatalf("%v, %v: memory is shared", r.shape, r.p)
			}
		}
		readIs(t, r.shape, packet, r.ahead, r.p)
		spoil(packet)
		for _, one := range r.ahead {
			spoil(one)
		}
		if !same(first, r.p) {
			t.Fatalf("%v, %v: what was handed in is kept", r.shape, r.p)
		}
	}
}

// The same gains for both channels, ahead and now, in the same memory, are parted too.
func TestChannelsShareNoMemory(t *testing.T) {
	g := []int{9, 9, 9, 9, 9}
	x := chance(0x1f83d9abfb41bd6b)
	p := x.packOf(t, shape{30, 2}, [][]int{g, g}, false)
	b, e := Write(30, 2, p, [][]int{g, g})
	if e != api.OK {
		t.Fatalf("error %d", e)
	}
	q, e := Read(30, 2, b, [][]int{g, g})
	if e != api.OK {
		t.Fatalf("error %d", e)
	}
	spoil(q.G[0])
	if !slices.Equal(q.G[1], []int{9, 9, 9, 9, 9}) || !slices.Equal(g, []int{9, 9, 9, 9, 9}) {
		t.Errorf("%v, %v", q.G, g)
	}
}
