package coder

import (
	"bytes"
	"math"
	"math/big"
	"slices"
	"testing"

	"psaltery/api"
)

// The tests hold the layer against a model that has an encoder's bytes and its Low as one long number of the library, in which what is carried needs no loop, and a decoder's bytes as a row of noughts without an end.

// chance is a row of numbers that do not repeat soon.
type chance uint64

func (x *chance) next() uint64 {
	*x ^= *x << 13
	*x ^= *x >> 7
	*x ^= *x << 17
	return uint64(*x)
}

func (x *chance) below(n int) int {
	return int(x.next() >> 11 % uint64(n))
}

func (x *chance) bytes(n int) []byte {
	b := make([]byte, n)
	for i := range b {
		b[i] = byte(x.next() >> 13)
	}
	return b
}

// choice is what Put and Take are told.
type choice struct{ lo, hi, tot int }

func right(c choice) bool {
	return c.lo >= 0 && c.hi > c.lo && c.tot >= c.hi && c.tot < 65537
}

// anyChoice is a right choice by chance, now and then at an edge.
func (x *chance) anyChoice() choice {
	tot := 1 + x.below(1<<(1+x.below(16)))
	if x.below(8) == 0 {
		tot = 65536 - x.below(2)
	}
	lo := x.below(tot)
	hi := lo + 1 + x.below(tot-lo)
	switch x.below(6) {
	case 0:
		hi = lo + 1
	case 1:
		hi = tot
	case 2:
		lo = 0
	case 3:
		lo, hi = tot-1, tot
	}
	return choice{lo, hi, tot}
}

// edgeChoices are right choices at the bounds that the chapter names.
func edgeChoices() []choice {
	return []choice{
		{0, 1, 1}, {0, 1, 2}, {1, 2, 2}, {0, 2, 2}, {0, 1, 3}, {1, 2, 3}, {2, 3, 3}, {1, 3, 3}, {0, 3, 3},
		{0, 1, 65536}, {65535, 65536, 65536}, {65534, 65535, 65536}, {0, 65536, 65536}, {0, 65535, 65536}, {1, 65536, 65536},
		{0, 1, 65535}, {65534, 65535, 65535}, {0, 1, 255}, {254, 255, 255}, {0, 1, 256}, {255, 256, 256}, {32768, 32769, 65536}, {12345, 23456, 65521},
	}
}

// wrongChoices are those that may not be.
func wrongChoices() []choice {
	return []choice{
		{0, 0, 0}, {0, 0, 1}, {1, 1, 1}, {2, 2, 5}, {3, 2, 5}, {5, 5, 5}, {0, 6, 5}, {4, 6, 5}, {5, 6, 5}, {6, 7, 5}, {-1, 1, 2}, {-1, 0, 2}, {-2, -1, 2}, {-1, 3, 2},
		{0, 1, 0}, {0, 1, -1}, {0, -1, -1}, {-2, -1, -1}, {-3, -2, -1}, {0, 0, -5}, {0, 1, -65536},
		{0, 1, 65537}, {65536, 65537, 65537}, {0, 65537, 65537}, {0, 65537, 65536}, {65535, 65537, 65536}, {65536, 65537, 65536}, {65536, 65536, 65536}, {0, 1, 1 << 32}, {0, 1, 1<<32 + 2}, {1 << 32, 1<<32 + 1, 2}, {0, 1<<32 + 1, 2},
		{0, 1, math.MaxInt}, {0, 1, math.MinInt}, {0, math.MaxInt, 5}, {0, math.MaxInt, math.MaxInt}, {math.MinInt, 1, 5}, {math.MinInt, math.MaxInt, 5}, {math.MaxInt, 1, 5}, {math.MaxInt, math.MinInt, 5}, {1, math.MinInt, 5}, {math.MaxInt - 1, math.MaxInt, math.MaxInt}, {math.MinInt, math.MinInt + 1, math.MinInt + 2},
	}
}

func sameEnc(a, b Enc) bool {
	return a.Low == b.Low && a.Range == b.Range && bytes.Equal(a.Out, b.Out)
}

// sameDec: the same place of the very same bytes?
func sameDec(a, b Dec) bool {
	return a.Code == b.Code && a.Range == b.Range && a.At == b.At && len(a.B) == len(b.B) && (len(a.B) == 0 || &a.B[0] == &b.B[0])
}

// fresh is what New answers, and none what Open answers of no bytes, by the chapter's words.
func fresh() Enc { return Enc{Low: 0, Range: 4294967295} }
func none() Dec  { return Dec{Code: 0, Range: 4294967295, At: 4} }

// widths are how much lies ahead of a choice, and how much is its own.
func widths(whole uint32, c choice) (ahead, own uint64) {
	r := uint64(whole) / uint64(c.tot)
	ahead, own = r*uint64(c.lo), r*uint64(c.hi-c.lo)
	if c.hi == c.tot {
		own = uint64(whole) - ahead
	}
	return ahead, own
}

// modelPut puts a right choice: Out and Low are one number, of which as many bytes count as there are.
func modelPut(e Enc, c choice) Enc {
	ahead, own := widths(e.Range, c)
	all := new(big.Int).SetBytes(e.Out)
	all.Lsh(all, 32)
	all.Add(all, new(big.Int).SetUint64(e.Low+ahead))
	n := len(e.Out) + 4
	all.Mod(all, new(big.Int).Lsh(big.NewInt(1), uint(8*n)))
	for own < 1<<24 {
		own *= 256
		all.Mul(all, big.NewInt(256))
		n++
	}
	b := all.FillBytes(make([]byte, n))
	low := uint64(0)
	for _, x := range b[n-4:] {
		low = low*256 + uint64(x)
	}
	return Enc{Low: low, Range: uint32(own), Out: b[:n-4]}
}

// modelTake takes a right choice.
func modelTake(d Dec, c choice) Dec {
	ahead, own := widths(d.Range, c)
	code := max(int64(d.Code)-int64(ahead), 0)
	for own < 1<<24 {
		own *= 256
		code = code * 256 % (1 << 32)
		if d.At < len(d.B) {
			code += int64(d.B[d.At])
			d.At++
		}
	}
	return Dec{Code: uint64(code), Range: uint32(own), B: d.B, At: d.At}
}

// rightEncs are encoders at the bounds that the chapter names, and by chance.
func rightEncs() []Enc {
	x := chance(0x9e3779b97f4a7c15)
	out := []Enc{fresh()}
	for _, low := range []uint64{0, 1, 1<<24 - 1, 1 << 24, 1 << 31, 1<<32 - 1<<24, 1<<32 - 256, 1<<32 - 1} {
		for _, r := range []uint32{1 << 24, 1<<24 + 1, 1<<24 + 65535, 1 << 31, 1<<32 - 1} {
			for _, b := range [][]byte{nil, {0}, {255}, {254}, {255, 255, 255}, {0, 255, 255, 255}, {7, 254, 255}, {255, 0, 255}, x.bytes(9), slices.Repeat([]byte{255}, 300)} {
				out = append(out, Enc{low, r, b})
			}
		}
	}
	for range 200 {
		out = append(out, Enc{x.next() >> 32, uint32(max(x.next()>>(32+x.below(8)), 1<<24)), x.bytes(x.below(20))})
	}
	return out
}

// fullEncs are right ones for which there is no room to put anything.
func fullEncs() []Enc {
	x := chance(0x2545f4914f6cdd1d)
	var out []Enc
	for _, n := range []int{3996, 3997, 3998, 3999, 4000} {
		out = append(out, Enc{1<<32 - 1, 1 << 24, x.bytes(n)}, Enc{0, 1<<32 - 1, make([]byte, n)})
	}
	return out
}

// wrongEncs are encoders that may not be.
func wrongEncs() []Enc {
	x := chance(0xd1b54a32d192ed03)
	return []Enc{
		{}, {Low: 5}, {Out: []byte{1, 2}}, {0, 1<<24 - 1, nil}, {0, 1, []byte{9}}, {0, 0, []byte{9}}, {7, 65536, []byte{1, 2, 3}},
		{1 << 32, 1<<32 - 1, nil}, {1 << 32, 1 << 24, []byte{255}}, {math.MaxUint64, 1<<32 - 1, []byte{3}}, {1 << 63, 1<<32 - 1, []byte{3}}, {1<<32 + 5, 1 << 31, []byte{255, 255}},
		{0, 1<<32 - 1, x.bytes(4001)}, {0, 1<<32 - 1, x.bytes(4002)}, {5, 1 << 24, x.bytes(9000)}, {1 << 32, 0, x.bytes(4001)},
	}
}

// rightDecs are decoders at the bounds that the chapter names, and by chance: a code need not be below the range.
func rightDecs() []Dec {
	x := chance(0x853c49e6748fea9b)
	b := x.bytes(12)
	out := []Dec{none()}
	for _, code := range []uint64{0, 1, 1<<24 - 1, 1 << 24, 1 << 31, 1<<32 - 1} {
		for _, r := range []uint32{1 << 24, 1<<24 + 65535, 1 << 31, 1<<32 - 1} {
			for _, at := range []int{0, 1, 4, 10, 11, 12, 13, math.MaxInt} {
				out = append(out, Dec{code, r, b, at})
			}
			out = append(out, Dec{code, r, nil, 0}, Dec{code, r, []byte{}, 4}, Dec{code, r, []byte{255}, 0})
		}
	}
	for range 200 {
		out = append(out, Dec{x.next() >> 32, uint32(max(x.next()>>(32+x.below(8)), 1<<24)), x.bytes(x.below(20)), x.below(22)})
	}
	return out
}

// wrongDecs are decoders that may not be; what they have of bytes doesn't count.
func wrongDecs() []Dec {
	b := []byte{255, 254, 253, 252, 251, 250, 249}
	return []Dec{
		{}, {B: b}, {Code: 1, B: b, At: 4}, {1<<32 - 1, 1<<24 - 1, b, 4}, {1 << 20, 1, b, 0}, {1 << 20, 0, b, 0},
		{1 << 32, 1<<32 - 1, b, 4}, {1<<32 + 1<<31, 1 << 24, b, 0}, {math.MaxUint64, 1<<32 - 1, b, 4}, {1 << 63, 1 << 31, nil, 4},
		{1 << 31, 1<<32 - 1, b, -1}, {1 << 31, 1<<32 - 1, b, math.MinInt}, {0, 1 << 24, nil, -4}, {1 << 32, 0, b, -1},
	}
}

// P5.1: New, RightEnc; P5.2: RightDec.

func TestNew(t *testing.T) {
	if e := New(); !sameEnc(e, fresh()) || !RightEnc(e) {
		t.Errorf("%+v", e)
	}
}

func TestRightEnc(t *testing.T) {
	for _, e := range slices.Concat(rightEncs(), fullEncs()) {
		if !RightEnc(e) {
			t.Errorf("low %d, range %d, %d bytes: not right", e.Low, e.Range, len(e.Out))
		}
	}
	for _, e := range wrongEncs() {
		if RightEnc(e) {
			t.Errorf("low %d, range %d, %d bytes: right", e.Low, e.Range, len(e.Out))
		}
	}
}

func TestRightDec(t *testing.T) {
	for _, d := range rightDecs() {
		if !RightDec(d) {
			t.Errorf("%+v: not right", d)
		}
	}
	for _, d := range wrongDecs() {
		if RightDec(d) {
			t.Errorf("%+v: right", d)
		}
	}
}

// P5.1: Put.

// putIs holds one Put.
func putIs(t *testing.T, e Enc, c choice, want Enc, wantF api.Errno) Enc {
	t.Helper()
	x, f := Put(e, c.lo, c.hi, c.tot)
	if f != wantF || !sameEnc(x, want) {
		t.Fatalf("low %x, range %x, %d bytes, %v: low %x, range %x, %x, error %d; want %x, %x, %x, %d", e.Low, e.Range, len(e.Out), c, x.Low, x.Range, x.Out, f, want.Low, want.Range, want.Out, wantF)
	}
	if !RightEnc(x) {
		t.Fatalf("low %x, range %x, %d bytes: not right", x.Low, x.Range, len(x.Out))
	}
	return x
}

func TestPutExamples(t *testing.T) {
	for _, c := range []struct {
		e    Enc
		c    choice
		want Enc
	}{
		{New(), choice{1, 2, 2}, Enc{0x7fffffff, 0x80000000, nil}},
		{New(), choice{0, 1, 2}, Enc{0, 0x7fffffff, nil}},
		{New(), choice{0, 1, 1}, Enc{0, 0xffffffff, nil}},
		{New(), choice{0, 2, 2}, Enc{0, 0xffffffff, nil}},
		{New(), choice{1, 2, 3}, Enc{0x55555555, 0x55555555, nil}},
		{New(), choice{3, 4, 256}, Enc{0xfffffd00, 0xffffff00, []byte{2}}},
		{New(), choice{0, 1, 65536}, Enc{0, 0xffff0000, []byte{0, 0}}},
		{New(), choice{65535, 65536, 65536}, Enc{0xfe000100, 0x01fffe00, []byte{0xff}}},
		// one is carried
		{Enc{0xffffffff, 1 << 24, []byte{1, 2}}, choice{1, 2, 2}, Enc{0x7fffff00, 0x80000000, []byte{1, 3, 0}}},
		{Enc{0xffffffff, 1 << 24, []byte{1, 255}}, choice{1, 2, 2}, Enc{0x7fffff00, 0x80000000, []byte{2, 0, 0}}},
		{Enc{0xffffffff, 1 << 24, []byte{255, 255}}, choice{1, 2, 2}, Enc{0x7fffff00, 0x80000000, []byte{0, 0, 0}}},
		{Enc{0xffffffff, 1 << 24, nil}, choice{1, 2, 2}, Enc{0x7fffff00, 0x80000000, []byte{0}}},
		{Enc{0x80000000, 0xffffffff, []byte{9, 255, 7, 255, 255}}, choice{3, 4, 4}, Enc{0x3ffffffd, 0x40000002, []byte{9, 255, 8, 0, 0}}},
		// none is carried by less than a whole
		{Enc{0xff800000, 1 << 24, []byte{1, 2}}, choice{32767, 32768, 65536}, Enc{0xff000000, 1 << 24, []byte{1, 2, 0xff, 0xff}}},
		{Enc{0xff800000, 1 << 24, []byte{1, 2}}, choice{32768, 32769, 65536}, Enc{0, 1 << 24, []byte{1, 3, 0, 0}}},
	} {
		putIs(t, c.e, c.c, c.want, api.OK)
	}
}

func TestPutAny(t *testing.T) {
	x := chance(0xda942042e4dd58b5)
	for _, e := range rightEncs() {
		for _, c := range edgeChoices() {
			putIs(t, e, c, modelPut(e, c), api.OK)
		}
		for range 20 {
			c := x.anyChoice()
			putIs(t, e, c, modelPut(e, c), api.OK)
		}
	}
}

func TestPutWrong(t *testing.T) {
	for _, c := range wrongChoices() {
		if right(c) {
			t.Fatalf("%v is right", c)
		}
		for _, e := range rightEncs()[:30] {
			putIs(t, e, c, e, api.ErrArg)
		}
	}
}

// P5.1: at each number of bytes near the last; a choice that isn't right is told first.
func TestPutFull(t *testing.T) {
	x := chance(0x1234567)
	wide := choice{0, 65536, 65536}
	for _, n := range []int{3990, 3993, 3994, 3995} {
		for _, e := range []Enc{{1<<32 - 1, 1 << 24, x.bytes(n)}, {1<<32 - 1, 1 << 24, slices.Repeat([]byte{255}, n)}} {
			for _, c := range append(edgeChoices(), wide) {
				putIs(t, e, c, modelPut(e, c), api.OK)
			}
			putIs(t, e, choice{2, 2, 5}, e, api.ErrArg)
		}
	}
	for _, e := range fullEncs() {
		for _, c := range append(edgeChoices(), wide) {
			putIs(t, e, c, e, api.ErrFull)
		}
		for _, c := range wrongChoices() {
			putIs(t, e, c, e, api.ErrArg)
		}
	}
}

// P5.1, with the chapter's word on encoders that are not right: New's stands in their place, with an error too.
func TestPutBehindWrongEncs(t *testing.T) {
	for _, e := range wrongEncs() {
		for _, c := range edgeChoices() {
			putIs(t, e, c, modelPut(fresh(), c), api.OK)
		}
		for _, c := range wrongChoices() {
			putIs(t, e, c, fresh(), api.ErrArg)
		}
	}
}

// P5.1: Finish.
func TestFinish(t *testing.T) {
	for _, c := range []struct {
		e    Enc
		want []byte
	}{
		{New(), []byte{0, 0, 0, 0}},
		{Enc{0x7fffffff, 0x80000000, nil}, []byte{0x7f, 0xff, 0xff, 0xff}},
		{Enc{0x01020304, 1 << 24, []byte{9, 8}}, []byte{9, 8, 1, 2, 3, 4}},
		{Enc{0xfffefdfc, 1<<32 - 1, []byte{255}}, []byte{255, 255, 254, 253, 252}},
		{Enc{5, 1 << 24, make([]byte, 4000)}, append(make([]byte, 4003), 5)},
	} {
		if b := Finish(c.e); !bytes.Equal(b, c.want) {
			t.Errorf("%x: %x", c.e.Low, b)
		}
	}
	for _, e := range wrongEncs() {
		if b := Finish(e); !bytes.Equal(b, make([]byte, 4)) {
			t.Errorf("low %x, range %x, %d bytes: %x", e.Low, e.Range, len(e.Out), b)
		}
	}
}

// P5.2: Open.
func TestOpen(t *testing.T) {
	for _, c := range []struct {
		b    []byte
		code uint64
	}{
		{nil, 0}, {[]byte{}, 0}, {[]byte{1}, 0x01000000}, {[]byte{255, 2}, 0xff020000}, {[]byte{1, 2, 3}, 0x01020300},
		{[]byte{1, 2, 3, 4}, 0x01020304}, {[]byte{255, 255, 255, 255, 255}, 0xffffffff}, {[]byte{0x80, 0, 0, 1, 9, 9, 9}, 0x80000001},
	} {
		if d := Open(c.b); !sameDec(d, Dec{c.code, 4294967295, c.b, 4}) || !RightDec(d) {
			t.Errorf("%x: %+v", c.b, d)
		}
	}
	room := []byte{1, 2, 3, 4, 5, 6}
	if d := Open(room[:2]); d.Code != 0x01020000 || len(d.B) != 2 {
		t.Errorf("spare room is read: %+v", d)
	}
}

// P5.2: Get.

func modelGet(d Dec, tot int) int {
	return min(int(d.Code/(uint64(d.Range)/uint64(tot))), tot-1)
}

func getIs(t *testing.T, d Dec, tot, want int, wantF api.Errno) {
	t.Helper()
	if n, f := Get(d, tot); n != want || f != wantF {
		t.Errorf("code %x, range %x, of %d: %d, error %d; want %d, %d", d.Code, d.Range, tot, n, f, want, wantF)
	}
}

func TestGetAny(t *testing.T) {
	x := chance(0x5851f42d4c957f2d)
	tots := []int{1, 2, 3, 5, 255, 256, 257, 32768, 65535, 65536}
	for range 20 {
		tots = append(tots, 1+x.below(65536))
	}
	for _, d := range rightDecs() {
		for _, tot := range tots {
			getIs(t, d, tot, modelGet(d, tot), api.OK)
		}
	}
	for _, d := range wrongDecs() {
		for _, tot := range tots {
			getIs(t, d, tot, 0, api.OK)
		}
	}
}

func TestGetEdges(t *testing.T) {
	getIs(t, Open([]byte{0x7f, 0xff, 0xff, 0xff}), 2, 1, api.OK)
	getIs(t, Open([]byte{0x7f, 0xff, 0xff, 0xfe}), 2, 0, api.OK)
	// what the division leaves over is the last one's
	getIs(t, Open([]byte{0xff, 0xff, 0xff, 0xff}), 2, 1, api.OK)
	getIs(t, Open([]byte{0xff, 0xff, 0xff, 0xff}), 65536, 65535, api.OK)
	getIs(t, Dec{1<<32 - 1, 1 << 24, nil, 0}, 7, 6, api.OK)
	for _, tot := range []int{0, -1, -2, 65537, 65538, 1 << 17, 1 << 32, 1<<32 + 1, math.MaxInt, math.MinInt} {
		for _, d := range slices.Concat(rightDecs()[:40], wrongDecs()) {
			getIs(t, d, tot, 0, api.ErrArg)
		}
	}
}

// P5.2: Take.

// takeIs holds one Take.
func takeIs(t *testing.T, d Dec, c choice, want Dec, wantF api.Errno) Dec {
	t.Helper()
	x, f := Take(d, c.lo, c.hi, c.tot)
	if f != wantF || !sameDec(x, want) {
		t.Fatalf("code %x, range %x, at %d, %v: code %x, range %x, at %d, error %d; want %x, %x, %d, %d", d.Code, d.Range, d.At, c, x.Code, x.Range, x.At, f, want.Code, want.Range, want.At, wantF)
	}
	if !RightDec(x) {
		t.Fatalf("%+v: not right", x)
	}
	return x
}

func TestTakeExamples(t *testing.T) {
	b := []byte{1, 2, 3, 4, 5, 6, 7}
	for _, c := range []struct {
		d    Dec
		c    choice
		want Dec
	}{
		{Dec{0x7fffffff, 1<<32 - 1, b, 4}, choice{1, 2, 2}, Dec{0, 0x80000000, b, 4}},
		{Dec{0x12345678, 1<<32 - 1, b, 4}, choice{0, 1, 1}, Dec{0x12345678, 1<<32 - 1, b, 4}},
		{Dec{0x00345678, 1<<32 - 1, b, 4}, choice{0, 1, 256}, Dec{0x34567805, 0xffffff00, b, 5}},
		{Dec{0x00005678, 1<<32 - 1, b, 5}, choice{0, 1, 65536}, Dec{0x56780607, 0xffff0000, b, 7}},
		// bytes that are not there
		{Dec{0x00005678, 1<<32 - 1, b, 6}, choice{0, 1, 65536}, Dec{0x56780700, 0xffff0000, b, 7}},
		{Dec{0x00005678, 1<<32 - 1, b, 7}, choice{0, 1, 65536}, Dec{0x56780000, 0xffff0000, b, 7}},
		{Dec{0x00005678, 1<<32 - 1, b, 9}, choice{0, 1, 65536}, Dec{0x56780000, 0xffff0000, b, 9}},
		// less than what lies ahead, and more than a choice has
		{Dec{5, 1<<32 - 1, b, 0}, choice{1, 2, 2}, Dec{0, 0x80000000, b, 0}},
		{Dec{0xffffffff, 1 << 24, b, 0}, choice{0, 1, 256}, Dec{0xffffff01, 1 << 24, b, 1}},
	} {
		takeIs(t, c.d, c.c, c.want, api.OK)
	}
}

func TestTakeAny(t *testing.T) {
	x := chance(0x94d049bb133111eb)
	for _, d := range rightDecs() {
		for _, c := range edgeChoices() {
			takeIs(t, d, c, modelTake(d, c), api.OK)
		}
		for range 20 {
			c := x.anyChoice()
			takeIs(t, d, c, modelTake(d, c), api.OK)
		}
	}
}

func TestTakeWrong(t *testing.T) {
	for _, c := range wrongChoices() {
		for _, d := range rightDecs() {
			takeIs(t, d, c, d, api.ErrArg)
		}
	}
}

// P5.2, with the chapter's word on decoders that are not right: that of no bytes stands in their place, with an error too.
func TestTakeOfWrongDecs(t *testing.T) {
	for _, d := range wrongDecs() {
		for _, c := range edgeChoices() {
			takeIs(t, d, c, modelTake(none(), c), api.OK)
		}
		for _, c := range wrongChoices() {
			takeIs(t, d, c, none(), api.ErrArg)
		}
	}
}

// P5.3: PutNum and TakeNum.

// number is v, of the numbers below n.
type number struct{ v, n uint64 }

// anyNumber is a right number by chance, now and then at an edge.
func (x *chance) anyNumber() number {
	n := x.next()>>(31+x.below(33)) + 1
	n = min(n, 1<<32)
	if x.below(8) == 0 {
		n = 65534 + uint64(x.below(5))
	}
	v := x.next() % n
	switch x.below(6) {
	case 0:
		v = n - 1
	case 1:
		v = 0
	}
	return number{v, n}
}

// edgeNumbers are right numbers at the bounds that the chapter names.
func edgeNumbers() []number {
	return []number{
		{0, 1}, {0, 2}, {1, 2}, {4, 5}, {0, 65535}, {65534, 65535}, {0, 65536}, {65535, 65536}, {12345, 65536},
		{0, 65537}, {1, 65537}, {65535, 65537}, {65536, 65537}, {65536, 70001}, {70000, 70001}, {0, 131072}, {131071, 131072}, {131072, 131073}, {65535, 131073},
		{0, 1 << 32}, {1<<32 - 1, 1 << 32}, {1<<32 - 65536, 1 << 32}, {1<<32 - 65537, 1 << 32}, {1<<32 - 2, 1<<32 - 1}, {1 << 31, 1<<32 - 1}, {1<<32 - 65536, 1<<32 - 65535}, {1<<32 - 65537, 1<<32 - 65536},
	}
}

// wrongNumbers are those that may not be.
func wrongNumbers() []number {
	return []number{
		{0, 0}, {1, 0}, {1, 1}, {2, 1}, {5, 5}, {6, 5}, {65536, 65536}, {65537, 65536}, {65537, 65537}, {131072, 70000}, {1 << 32, 1 << 32}, {1<<32 + 1, 1 << 32},
		{0, 1<<32 + 1}, {5, 1<<32 + 1}, {1 << 32, 1<<32 + 1}, {0, 1 << 33}, {0, 1 << 63}, {0, math.MaxUint64}, {math.MaxUint64, math.MaxUint64}, {math.MaxUint64, 0}, {math.MaxUint64, 5}, {1 << 32, 1}, {1 << 63, 1 << 32},
	}
}

// choicesOf are the one or two choices that a right number is.
func choicesOf(m number) []choice {
	if m.n <= 65536 {
		return []choice{{int(m.v), int(m.v) + 1, int(m.n)}}
	}
	upper, rest := int(m.v>>16), int(m.v&0xffff)
	tot := int(m.n >> 16)
	if m.n&0xffff != 0 {
		tot++
	}
	return []choice{{upper, upper + 1, tot}, {rest, rest + 1, 65536}}
}

// modelPutNum puts a right number whole, or tells that there is no room.
func modelPutNum(e Enc, m number) (Enc, api.Errno) {
	out := e
	for _, c := range choicesOf(m) {
		if len(out.Out) >= 3996 {
			return e, api.ErrFull
		}
		out = modelPut(out, c)
	}
	return out, api.OK
}

// modelTakeNum takes a number below n, which is right.
func modelTakeNum(d Dec, n uint64) (Dec, uint64) {
	all := uint64(0)
	for _, c := range choicesOf(number{0, n}) {
		v := modelGet(d, c.tot)
		d = modelTake(d, choice{v, v + 1, c.tot})
		all = all<<16 + uint64(v)
	}
	return d, min(all, n-1)
}

func putNumIs(t *testing.T, e Enc, m number, want Enc, wantF api.Errno) {
	t.Helper()
	x, f := PutNum(e, m.v, m.n)
	if f != wantF || !sameEnc(x, want) || !RightEnc(x) {
		t.Fatalf("low %x, range %x, %d bytes, %v: low %x, range %x, %d bytes, error %d; want %x, %x, %d, %d", e.Low, e.Range, len(e.Out), m, x.Low, x.Range, len(x.Out), f, want.Low, want.Range, len(want.Out), wantF)
	}
}

func takeNumIs(t *testing.T, d Dec, n uint64, want Dec, wantV uint64, wantF api.Errno) {
	t.Helper()
	x, v, f := TakeNum(d, n)
	if f != wantF || v != wantV || !sameDec(x, want) || !RightDec(x) {
		t.Fatalf("code %x, range %x, at %d, of %d: %d, code %x, range %x, at %d, error %d; want %d, %x, %x, %d, %d", d.Code, d.Range, d.At, n, v, x.Code, x.Range, x.At, f, wantV, want.Code, want.Range, want.At, wantF)
	}
}

func TestPutNumAny(t *testing.T) {
	x := chance(0xbf58476d1ce4e5b9)
	for _, e := range rightEncs() {
		row := edgeNumbers()
		for range 10 {
			row = append(row, x.anyNumber())
		}
		for _, m := range row {
			want, f := modelPutNum(e, m)
			putNumIs(t, e, m, want, f)
		}
	}
}

func TestPutNumWrong(t *testing.T) {
	for _, m := range wrongNumbers() {
		for _, e := range slices.Concat(rightEncs()[:30], fullEncs()) {
			putNumIs(t, e, m, e, api.ErrArg)
		}
	}
}

// P5.3: where there is room for a number's first choice alone, nothing of it is put.
func TestPutNumFull(t *testing.T) {
	x := chance(0x369dea0f31a53f85)
	halves := 0
	for n := 3990; n <= 4000; n++ {
		for _, e := range []Enc{{1<<32 - 1, 1 << 24, x.bytes(n)}, {0, 1<<32 - 1, x.bytes(n)}} {
			for _, m := range edgeNumbers() {
				want, f := modelPutNum(e, m)
				putNumIs(t, e, m, want, f)
				if f == api.ErrFull && n < 3996 {
					halves++
				}
			}
		}
	}
	if halves == 0 {
		t.Error("no number was begun")
	}
}

func TestPutNumBehindWrongEncs(t *testing.T) {
	for _, e := range wrongEncs() {
		for _, m := range edgeNumbers() {
			want, _ := modelPutNum(fresh(), m)
			putNumIs(t, e, m, want, api.OK)
		}
		for _, m := range wrongNumbers() {
			putNumIs(t, e, m, fresh(), api.ErrArg)
		}
	}
}

func TestTakeNumAny(t *testing.T) {
	x := chance(0xca01f9dd2a6e1f7b)
	for _, d := range slices.Concat(rightDecs(), wrongDecs()) {
		stands := d
		if !RightDec(d) {
			stands = none()
		}
		row := edgeNumbers()
		for range 10 {
			row = append(row, x.anyNumber())
		}
		for _, m := range row {
			want, v := modelTakeNum(stands, m.n)
			takeNumIs(t, d, m.n, want, v, api.OK)
		}
	}
}

// P5.3: bytes may tell more than n - 1: it is told then, and both choices are taken as they were.
func TestTakeNumIsBounded(t *testing.T) {
	b := []byte{255, 255, 255, 255, 255, 255, 255, 255}
	for _, n := range []uint64{65537, 65538, 70001, 131071, 1<<32 - 1, 1<<32 - 65535} {
		want, v := modelTakeNum(Open(b), n)
		if v != n-1 {
			t.Errorf("of %d: %d", n, v)
		}
		takeNumIs(t, Open(b), n, want, n-1, api.OK)
	}
}

func TestTakeNumWrong(t *testing.T) {
	for _, n := range []uint64{0, 1<<32 + 1, 1<<32 + 65536, 1 << 33, 1 << 48, 1 << 63, math.MaxUint64} {
		for _, d := range rightDecs() {
			takeNumIs(t, d, n, d, 0, api.ErrArg)
		}
		for _, d := range wrongDecs() {
			takeNumIs(t, d, n, none(), 0, api.ErrArg)
		}
	}
}

// What follows.

// rows hands rows of choices to a call: one edge again and again, edges in turn, and by chance.
func rows(look func(row []choice)) {
	for _, c := range edgeChoices() {
		look(slices.Repeat([]choice{c}, 400))
	}
	look(slices.Repeat(edgeChoices(), 20))
	x := chance(0x41c64e6d3039ac35)
	for range 300 {
		var row []choice
		for range x.below(200) {
			row = append(row, x.anyChoice())
		}
		look(row)
	}
}

// putAll puts a row from New on.
func putAll(t *testing.T, row []choice) Enc {
	t.Helper()
	e := New()
	for _, c := range row {
		var f api.Errno
		if e, f = Put(e, c.lo, c.hi, c.tot); f != api.OK {
			t.Fatalf("%v behind %d bytes: error %d", c, len(e.Out), f)
		}
	}
	return e
}

// takeAll holds that a row is taken from bytes.
func takeAll(t *testing.T, b []byte, row []choice) {
	t.Helper()
	d := Open(b)
	for i, c := range row {
		if v, f := Get(d, c.tot); f != api.OK || v < c.lo || v >= c.hi {
			t.Fatalf("the choice %d, %v: %d, error %d", i, c, v, f)
		}
		d = takeIs(t, d, c, modelTake(d, c), api.OK)
	}
	if d.At != len(b) {
		t.Errorf("%d choices: %d bytes of %d are taken", len(row), d.At, len(b))
	}
}

// P5.4
func TestPutIsTaken(t *testing.T) {
	rows(func(row []choice) {
		takeAll(t, Finish(putAll(t, row)), row)
	})
}

// P5.4: as many choices as there is room for, up to the last one.
func TestPutIsTakenUpToTheBrim(t *testing.T) {
	x := chance(0x60bee2bee120fc15)
	e, row := New(), []choice(nil)
	for {
		c := x.anyChoice()
		y, f := Put(e, c.lo, c.hi, c.tot)
		if f == api.ErrFull {
			break
		}
		e, row = y, append(row, c)
	}
	if n := len(e.Out); n < 3996 || n > 3997 {
		t.Fatalf("%d bytes", n)
	}
	takeAll(t, Finish(e), row)
}

// astride is the choice of tot in which a number of four bytes lies; where it is the half of all, and then each byte's end, the bytes behind the first are 255 till it is known whether one is carried.
func astride(e Enc, tot int) choice {
	end := 1<<32 - e.Low
	if len(e.Out) == 0 {
		end = 1<<31 - min(e.Low, 1<<31)
	}
	lo := min(int(end/(uint64(e.Range)/uint64(tot))), tot-1)
	return choice{lo, lo + 1, tot}
}

// P5.4: a one that is carried far.
func TestCarriedFarIsTaken(t *testing.T) {
	for _, n := range []int{1, 2, 5, 50} {
		e := Enc{Low: 1<<32 - 1, Range: 1 << 24, Out: append([]byte{7}, slices.Repeat([]byte{255}, n)...)}
		want := Enc{Low: 0x7fffff00, Range: 0x80000000, Out: append([]byte{8}, make([]byte, n+1)...)}
		putIs(t, e, choice{1, 2, 2}, want, api.OK)
	}
	x := chance(0xa3b195354a39b70d)
	far := 0
	for range 400 {
		e, row := New(), []choice(nil)
		for range 60 {
			c := astride(e, 2+x.below(4000))
			if x.below(20) == 0 {
				c.lo, c.hi = c.tot-1, c.tot
			}
			y := putIs(t, e, c, modelPut(e, c), api.OK)
			if n := len(e.Out); n > 2 && e.Out[0] != y.Out[0] {
				far++
			}
			e, row = y, append(row, c)
		}
		takeAll(t, Finish(e), row)
	}
	if far < 50 {
		t.Errorf("%d times one was carried beyond two bytes", far)
	}
}

// P5.5
func TestPutNumIsTaken(t *testing.T) {
	x := chance(0xe7037ed1a0b428db)
	for i := range 300 {
		row := edgeNumbers()
		if i > 0 {
			row = nil
			for range x.below(200) {
				row = append(row, x.anyNumber())
			}
		}
		e := New()
		for _, m := range row {
			var f api.Errno
			if e, f = PutNum(e, m.v, m.n); f != api.OK {
				t.Fatalf("%v: error %d", m, f)
			}
		}
		d := Open(Finish(e))
		for _, m := range row {
			y, v, f := TakeNum(d, m.n)
			if f != api.OK || v != m.v {
				t.Fatalf("%v: %d, error %d", m, v, f)
			}
			d = y
		}
	}
}

// P5.6, held as narrowly as its words allow: the logarithms are added up first, as that of the tots' product, and rounded up once.
func TestOutIsShort(t *testing.T) {
	short := func(tots []int, pick func(tot int) int) {
		product := big.NewInt(1)
		var row []choice
		for _, tot := range tots {
			v := pick(tot)
			row = append(row, choice{v, v + 1, tot})
			product.Mul(product, big.NewInt(int64(tot)))
		}
		logs := product.Sub(product, big.NewInt(1)).BitLen() // 2^logs is the first power that isn't below the product
		if has := 8 * len(putAll(t, row).Out); has > logs+len(row)/100+1 {
			t.Errorf("%d choices of %v..: %d bits, where %d are asked", len(row), tots[:min(len(tots), 3)], has, logs)
		}
	}
	x := chance(0x8ebc6af09c88c6e3)
	picks := []func(tot int) int{
		func(tot int) int { return 0 }, func(tot int) int { return tot - 1 }, func(tot int) int { return max(tot-2, 0) }, func(tot int) int { return x.below(tot) },
	}
	for _, pick := range picks {
		short(nil, pick)
		for _, tot := range []int{1, 2, 3, 7, 255, 256, 257, 4095, 32767, 32769, 40000, 65535, 65536} {
			for _, n := range []int{1, 2, 50, 99, 100, 101, 1000, 1990} {
				short(slices.Repeat([]int{tot}, n), pick)
			}
		}
		for range 60 {
			var tots []int
			for range x.below(1500) {
				tots = append(tots, 1+x.below(65536))
			}
			short(tots, pick)
		}
	}
}

// P5.7: any bytes are taken, and beyond their end still more.
func TestAnyBytesAreTaken(t *testing.T) {
	x := chance(0x589965cc75374cc3)
	for i := range 300 {
		b := x.bytes(x.below(60))
		switch i % 6 {
		case 0:
			b = bytes.Repeat([]byte{255}, len(b))
		case 1:
			b = make([]byte, len(b))
		}
		d := Open(b)
		for range 400 {
			c := x.anyChoice()
			v, f := Get(d, c.tot)
			if f != api.OK || v < 0 || v >= c.tot || v != modelGet(d, c.tot) {
				t.Fatalf("%x at %d: %d of %d, error %d", b, d.At, v, c.tot, f)
			}
			// also a choice other than that which the bytes tell
			if x.below(4) != 0 {
				c = choice{v, v + 1, c.tot}
			}
			d = takeIs(t, d, c, modelTake(d, c), api.OK)
			n := x.anyNumber().n
			want, v2 := modelTakeNum(d, n)
			takeNumIs(t, d, n, want, v2, api.OK)
			d = want
		}
		if d.At != max(len(b), 4) {
			t.Errorf("%d bytes: %d are taken", len(b), d.At)
		}
	}
}

// R3: what is handed in stays as it is, and no answer shares memory with it, nor with another one; but a decoder keeps its bytes.

// spoil writes over all of a list, the spare room too.
func spoil(b []byte) {
	for i := range b[:cap(b)] {
		b[:cap(b)][i] ^= 0x5a
	}
}

// stays holds that an encoder's bytes, and the room behind them, are neither changed by a call nor shared with what it answers.
func stays(t *testing.T, name string, e Enc, call func(e Enc) []byte) {
	t.Helper()
	room := append(slices.Clone(e.Out), 0xaa, 0xaa, 0xaa, 0xaa, 0xaa, 0xaa, 0xaa, 0xaa)
	was := slices.Clone(room)
	e.Out = room[:len(e.Out)]
	a := call(e)
	if !bytes.Equal(room, was) {
		t.Errorf("%s, %d bytes: what is handed in is changed", name, len(e.Out))
	}
	told := slices.Clone(a)
	b := call(e)
	spoil(b)
	if !bytes.Equal(room, was) || !bytes.Equal(a, told) {
		t.Errorf("%s, %d bytes: memory is shared", name, len(e.Out))
	}
}

func TestAnswersAreNewMemory(t *testing.T) {
	puts := map[string]func(e Enc) []byte{
		"Finish": Finish,
	}
	for name, c := range map[string]choice{"Put": {65535, 65536, 65536}, "Put of a whole": {0, 1, 1}, "Put in error": {2, 2, 5}} {
		puts[name] = func(e Enc) []byte {
			x, _ := Put(e, c.lo, c.hi, c.tot)
			return x.Out
		}
	}
	for name, m := range map[string]number{"PutNum": {5, 7}, "PutNum of two choices": {1<<32 - 1, 1 << 32}, "PutNum in error": {5, 5}} {
		puts[name] = func(e Enc) []byte {
			x, _ := PutNum(e, m.v, m.n)
			return x.Out
		}
	}
	carries := Enc{1<<32 - 1, 1 << 24, []byte{1, 255, 255}}
	half := Enc{1<<32 - 1, 1 << 24, make([]byte, 3995)}
	for name, call := range puts {
		for _, e := range slices.Concat([]Enc{carries, half, New(), {0, 1 << 24, []byte{}}}, fullEncs(), wrongEncs()) {
			stays(t, name, e, call)
		}
	}
}

func TestDecodersKeepTheirBytes(t *testing.T) {
	b := []byte{9, 8, 7, 6, 5, 4, 3, 2, 1}
	was := slices.Clone(b)
	d := Open(b)
	for range 20 {
		v, _ := Get(d, 65536)
		d, _ = Take(d, v, v+1, 65536)
		d, _, _ = TakeNum(d, 1<<32)
		d, _ = Take(d, 3, 3, 3)
		d, _, _ = TakeNum(d, 0)
		if len(d.B) != len(b) || &d.B[0] != &b[0] || !bytes.Equal(b, was) {
			t.Fatalf("%x: %x", b, d.B)
		}
	}
	if d.At != len(b) {
		t.Errorf("at %d", d.At)
	}
}

// R4: the room behind a decoder's bytes is none of them.
func TestSpareRoomIsNotTaken(t *testing.T) {
	room := []byte{1, 2, 3, 4, 5, 6, 7, 8}
	d := Dec{0x00005678, 1<<32 - 1, room[:5], 4}
	takeIs(t, d, choice{0, 1, 65536}, Dec{0x56780500, 0xffff0000, room[:5], 5}, api.OK)
}
