package vhead

import (
	"bytes"
	"encoding/hex"
	"fmt"
	"math"
	"math/big"
	"slices"
	"testing"

	"psaltery/api"
)

// The tests hold the layer against headers whose bytes are written out, and against a model that has a header's bits as one long number.

const (
	whole = 41  // bytes of a header
	used  = 326 // bits of them
)

// chance is a row of numbers that do not repeat soon.
type chance uint64

func (x *chance) next() uint64 {
	*x ^= *x << 13
	*x ^= *x >> 7
	*x ^= *x << 17
	return uint64(*x)
}

func (x *chance) below(n int) int {
	return int(x.next() >> 3 % uint64(n))
}

// anyLengths are the lengths of so many codes that leave none over, short and long ones.
func (x *chance) anyLengths(count int) []int {
	if count == 1 {
		return []int{1}
	}
	l, steep := []int{0}, x.below(3)
	for len(l) < count {
		at := x.below(len(l))
		if steep == 0 {
			at = len(l) - 1
		}
		if l[at] == 16 {
			at = slices.Index(l, slices.Min(l))
		}
		l[at]++
		l = append(l, l[at])
	}
	return l
}

// anyBook is a right book of so many symbols, the last one used if that is asked.
func (x *chance) anyBook(symbols int, last bool) []int {
	l := x.anyLengths(1 + x.below(symbols))
	for len(l) < symbols {
		l = append(l, 0)
	}
	for i := range l {
		j := i + x.below(len(l)-i)
		l[i], l[j] = l[j], l[i]
	}
	if last && l[symbols-1] == 0 {
		at := slices.IndexFunc(l, func(n int) bool { return n > 0 })
		l[at], l[symbols-1] = 0, l[at]
	}
	return l
}

func (x *chance) anyHead() Head {
	return Head{Chans: 1 + x.below(2), Quality: x.below(13), Floor: x.anyBook(45, false), Res: x.anyBook(16, true)}
}

func copied(h Head) Head {
	return Head{Chans: h.Chans, Quality: h.Quality, Floor: slices.Clone(h.Floor), Res: slices.Clone(h.Res)}
}

func same(g, h Head) bool {
	return g.Chans == h.Chans && g.Quality == h.Quality && slices.Equal(g.Floor, h.Floor) && slices.Equal(g.Res, h.Res)
}

// none tells whether a header is the zero one.
func none(h Head) bool {
	return same(h, Head{})
}

// numbered are the symbols' lengths, said as how many symbols there are of each.
func numbered(pairs ...[2]int) []int {
	var l []int
	for _, p := range pairs {
		l = append(l, slices.Repeat([]int{p[1]}, p[0])...)
	}
	return l
}

func plainBooks() ([]int, []int) {
	return numbered([2]int{19, 5}, [2]int{26, 6}), numbered([2]int{16, 4})
}

// steepBooks have codes of all lengths.
func steepBooks() ([]int, []int) {
	floor := append([]int{1, 2, 3, 4, 5, 6, 7, 8, 9, 10, 11, 12, 13, 14, 15, 16, 16}, make([]int, 28)...)
	return floor, []int{1, 2, 3, 4, 5, 6, 7, 8, 9, 10, 11, 12, 13, 14, 15, 15}
}

// loneBooks use their last symbol alone.
func loneBooks() ([]int, []int) {
	return append(make([]int, 44), 1), append(make([]int, 15), 1)
}

func headOf(chans, quality int, books func() ([]int, []int)) Head {
	floor, res := books()
	return Head{Chans: chans, Quality: quality, Floor: floor, Res: res}
}

// someHeads are right headers of all kinds: each number of channels and quality, by each kind of books.
func someHeads(x chance, n int) []Head {
	var out []Head
	for chans := 1; chans <= 2; chans++ {
		for quality := range 13 {
			for _, books := range []func() ([]int, []int){plainBooks, steepBooks, loneBooks} {
				out = append(out, headOf(chans, quality, books))
			}
		}
	}
	for range n {
		out = append(out, x.anyHead())
	}
	return out
}

// others are numbers that are neither channels nor a quality, nor a code's length: also such as a narrower integer, or the header's own bits, would take for one.
func others() []int {
	return []int{-1, -2, -12, -13, -31, -256, -256 + 1, 13 + 1<<4, 17, 31, 32, 32 + 1, 64, 255, 256, 256 + 1, 256 + 2, 65536 + 1, 1 << 32, 1<<32 + 1, 1<<32 + 2, -(1 << 32) + 1, 1 << 62, math.MaxInt, math.MinInt, math.MinInt + 1, math.MinInt + 2}
}

// modelBook sums up the shares of a book's codes, which no float rounds.
func modelBook(l []int, symbols int) bool {
	if len(l) != symbols {
		return false
	}
	sum, count := 0.0, 0
	for _, n := range l {
		if n < 0 || n > 16 {
			return false
		}
		if n > 0 {
			sum, count = sum+math.Ldexp(1, -n), count+1
		}
	}
	return sum == 1 && count > 1 || sum == 0.5 && count == 1
}

func modelRight(h Head) bool {
	chans, quality := h.Chans == 1 || h.Chans == 2, h.Quality >= 0 && h.Quality <= 12
	return chans && quality && modelBook(h.Floor, 45) && modelBook(h.Res, 16) && h.Res[15] != 0
}

// field is one of a header's numbers, and how many bits it has.
type field struct {
	v uint64
	n uint
}

// modelBytes has the bits of all fields as one number, the first ones lowest.
func modelBytes(fields []field) []byte {
	all, at := new(big.Int), uint(0)
	for _, f := range fields {
		all.Or(all, new(big.Int).Lsh(new(big.Int).SetUint64(f.v), at))
		at += f.n
	}
	b := all.FillBytes(make([]byte, (at+7)/8))
	slices.Reverse(b)
	return b
}

// modelFields takes any header, as long as its numbers have no more than their bits.
func modelFields(magic uint64, h Head) []field {
	out := []field{{magic, 16}, {uint64(h.Chans - 1), 1}, {uint64(h.Quality), 4}}
	for _, n := range slices.Concat(h.Floor, h.Res) {
		out = append(out, field{uint64(n), 5})
	}
	return out
}

func modelWrite(h Head) []byte {
	return modelBytes(modelFields(0x5653, h))
}

// modelRead takes a header's bits from one number's lower end.
func modelRead(b []byte) (Head, api.Errno) {
	if len(b) < whole {
		return Head{}, api.ErrMore
	}
	back := slices.Clone(b)
	slices.Reverse(back)
	all := new(big.Int).SetBytes(back)
	take := func(n uint) int {
		rest := new(big.Int)
		rest, low := rest.DivMod(all, new(big.Int).Lsh(big.NewInt(1), n), new(big.Int))
		all = rest
		return int(low.Int64())
	}
	magic := take(16)
	h := Head{Chans: take(1) + 1, Quality: take(4), Floor: make([]int, 45), Res: make([]int, 16)}
	for s := range h.Floor {
		h.Floor[s] = take(5)
	}
	for s := range h.Res {
		h.Res[s] = take(5)
	}
	if magic != 0x5653 || len(b) != whole || all.Sign() != 0 || !modelRight(h) {
		return Head{}, api.ErrForm
	}
	return h, api.OK
}

// told is a header, in few words.
func told(h Head) string {
	return fmt.Sprintf("%d, %d, %d symbols %v.., %d symbols %v..", h.Chans, h.Quality, len(h.Floor), h.Floor[:min(len(h.Floor), 45)], len(h.Res), h.Res[:min(len(h.Res), 16)])
}

func isRight(t *testing.T, h Head) {
	t.Helper()
	if !Right(h) {
		t.Errorf("%s: not right", told(h))
	}
	if b, e := Write(h); e != api.OK || !bytes.Equal(b, modelWrite(h)) {
		t.Fatalf("%s: %x, error %d; want %x", told(h), b, e, modelWrite(h))
	}
}

func isWrong(t *testing.T, h Head) {
	t.Helper()
	if Right(h) {
		t.Errorf("%s: right", told(h))
	}
	if b, e := Write(h); len(b) != 0 || e != api.ErrArg {
		t.Errorf("%s: %x, error %d", told(h), b, e)
	}
}

func readIs(t *testing.T, b []byte, want Head) {
	t.Helper()
	if h, e := Read(b); e != api.OK || !same(h, want) {
		t.Fatalf("%x: %s, error %d; want %s", b, told(h), e, told(want))
	}
}

func readFails(t *testing.T, b []byte, want api.Errno) {
	t.Helper()
	if h, e := Read(b); e != want || !none(h) {
		t.Fatalf("%d bytes %x..: %s, error %d; want error %d", len(b), b[:min(len(b), whole)], told(h), e, want)
	}
}

// readIsModel reads any bytes.
func readIsModel(t *testing.T, b []byte) {
	t.Helper()
	if h, e := modelRead(b); e != api.OK {
		readFails(t, b, e)
	} else {
		readIs(t, b, h)
	}
}

// handWritten are headers whose bytes were reckoned aside.
func handWritten() map[string]Head {
	return map[string]Head{
		"5356a094524a29a594524a29a594628c31c618638c31c618638c31c618630c21841042082184104208": headOf(1, 0, plainBooks),
		"5356b994524a29a594524a29a594628c31c618638c31c618638c31c618630c21841042082184104208": headOf(2, 12, plainBooks),
		"53560e0000000000000000000000000000000000000000000000000000000200000000000000000002": headOf(1, 7, loneBooks),
		"53562b88418a3928a9c59a7b100200000000000000000000000000000000401083147350528b35f71e": headOf(2, 5, steepBooks),
	}
}

func bytesOf(t *testing.T, text string) []byte {
	t.Helper()
	b, err := hex.DecodeString(text)
	if err != nil || len(b) != whole {
		t.Fatalf("%s: %d bytes, %v", text, len(b), err)
	}
	return b
}

// P16.1: Right.

func TestMagic(t *testing.T) {
	if Magic != 22099 {
		t.Errorf("it is %d", Magic)
	}
}

func TestRight(t *testing.T) {
	for _, h := range someHeads(0x9e3779b97f4a7c15, 3000) {
		isRight(t, h)
	}
}

func TestWrongChannels(t *testing.T) {
	for _, chans := range append(others(), 0, 3, 4, 5) {
		for quality := range 13 {
			isWrong(t, headOf(chans, quality, plainBooks))
			isWrong(t, headOf(chans, quality, loneBooks))
		}
	}
}

func TestWrongQuality(t *testing.T) {
	for _, quality := range append(others(), 13, 14, 15, 16, 18, 20) {
		for chans := 1; chans <= 2; chans++ {
			isWrong(t, headOf(chans, quality, plainBooks))
			isWrong(t, headOf(chans, quality, steepBooks))
		}
	}
}

func TestZeroHeadIsWrong(t *testing.T) {
	isWrong(t, Head{})
	isWrong(t, Head{Chans: 1})
	isWrong(t, Head{Chans: 2, Quality: 12, Floor: []int{}, Res: []int{}})
}

// Books that are right, but have another number of symbols.
func TestBooksOfOtherSizes(t *testing.T) {
	x := chance(0xd1342543de82ef95)
	for symbols := 2; symbols <= 64; symbols++ {
		for range 20 {
			h, g := x.anyHead(), x.anyHead()
			h.Floor, g.Res = x.anyBook(symbols, true), x.anyBook(symbols, true)
			if symbols != 45 {
				isWrong(t, h)
			}
			if symbols != 16 {
				isWrong(t, g)
			}
		}
	}
	h := headOf(1, 0, plainBooks)
	h.Floor, h.Res = h.Res, h.Floor
	isWrong(t, h)
}

func TestListsOfOtherSizes(t *testing.T) {
	floor, res := loneBooks()
	for _, n := range []int{0, 1, 2, 15, 16, 17, 44, 45, 46, 60, 61, 64, 65, 256, 256 + 16, 256 + 45, 65536 + 16, 65536 + 45} {
		for _, first := range []int{0, 1} {
			l := make([]int, n)
			if n > 0 {
				l[0], l[n-1] = first, 1
			}
			if n != 45 {
				isWrong(t, Head{Chans: 1, Quality: 3, Floor: l, Res: res})
			}
			if n != 16 {
				isWrong(t, Head{Chans: 1, Quality: 3, Floor: floor, Res: l})
			}
		}
	}
	// Not even where the spare room would make it long enough.
	isWrong(t, Head{Chans: 1, Floor: floor[:44], Res: res})
	isWrong(t, Head{Chans: 1, Floor: floor, Res: res[:15]})
	isWrong(t, Head{Chans: 1, Floor: nil, Res: res})
	isWrong(t, Head{Chans: 1, Floor: floor, Res: nil})
	isWrong(t, Head{Chans: 1, Floor: make([]int, 0, 45), Res: res})
	isWrong(t, Head{Chans: 1, Floor: floor, Res: make([]int, 0, 16)})
}

// A code more, a code less, or one that no book may have.
func TestBooksThatAreNone(t *testing.T) {
	isWrong(t, Head{Chans: 1, Floor: make([]int, 45), Res: numbered([2]int{16, 4})})
	isWrong(t, Head{Chans: 1, Floor: append(make([]int, 44), 2), Res: numbered([2]int{16, 4})})
	floor, _ := plainBooks()
	isWrong(t, Head{Chans: 1, Floor: floor, Res: make([]int, 16)})
	isWrong(t, Head{Chans: 1, Floor: floor, Res: append(make([]int, 15), 2)})
	isWrong(t, Head{Chans: 1, Floor: floor, Res: append(make([]int, 14), 1, 2)})
	for _, books := range []func() ([]int, []int){plainBooks, steepBooks, loneBooks} {
		h := headOf(2, 12, books)
		for _, l := range [][]int{h.Floor, h.Res} {
			for s, was := range l {
				for _, n := range append(others(), was-1, was+1, was+16, was+32, was+1<<32) {
					if l[s] = n; !modelRight(h) {
						isWrong(t, h)
					}
				}
				l[s] = was
			}
		}
		isRight(t, h)
	}
}

func TestResWithoutItsLast(t *testing.T) {
	floor, _ := plainBooks()
	for _, res := range [][]int{
		{1, 2, 3, 4, 5, 6, 7, 8, 9, 10, 11, 12, 13, 14, 14, 0},
		{1, 1, 0, 0, 0, 0, 0, 0, 0, 0, 0, 0, 0, 0, 0, 0},
		{0, 0, 0, 0, 0, 0, 0, 0, 0, 0, 0, 0, 0, 0, 1, 0},
		{3, 4, 4, 4, 4, 4, 4, 4, 4, 4, 4, 4, 4, 4, 4, 0},
	} {
		if !modelBook(res, 16) {
			t.Fatalf("%v: no book", res)
		}
		isWrong(t, Head{Chans: 1, Quality: 1, Floor: floor, Res: res})
	}
	x := chance(0x94d049bb133111eb)
	for range 500 {
		h := x.anyHead()
		h.Res = append(x.anyBook(15, false), 0)
		isWrong(t, h)
	}
	// The last one of Floor may be missed.
	h := headOf(2, 4, plainBooks)
	h.Floor[44], h.Floor[43] = 0, 5
	isRight(t, h)
}

func TestRightIsModel(t *testing.T) {
	x := chance(0xda942042e4dd58b5)
	for range 3000 {
		h := x.anyHead()
		h.Chans, h.Quality = x.below(5)-1, x.below(17)-2
		if at := x.below(45); x.below(2) == 0 {
			h.Floor[at] += x.below(3) - 1
		}
		if at := x.below(16); x.below(2) == 0 {
			h.Res[at] += x.below(3) - 1
		}
		if modelRight(h) {
			isRight(t, h)
		} else {
			isWrong(t, h)
		}
	}
}

// P16.1: Plain.

func TestPlain(t *testing.T) {
	floor, res := plainBooks()
	for _, chans := range append(others(), 0, 1, 2, 3) {
		for _, quality := range append(others(), 0, 1, 7, 12, 13, 15, 16) {
			h := Plain(chans, quality)
			if h.Chans != chans || h.Quality != quality || !slices.Equal(h.Floor, floor) || !slices.Equal(h.Res, res) {
				t.Fatalf("%d and %d: %s", chans, quality, told(h))
			}
		}
	}
}

// P16.2: Write.

func TestWriteByHand(t *testing.T) {
	for text, h := range handWritten() {
		if b, e := Write(h); e != api.OK || !bytes.Equal(b, bytesOf(t, text)) {
			t.Errorf("%s: %x, error %d; want %s", told(h), b, e, text)
		}
	}
	if b, e := Write(Plain(1, 0)); len(b) != whole || b[0] != 0x53 || b[1] != 0x56 || e != api.OK {
		t.Errorf("%x, error %d", b, e)
	}
}

// Each of a header's numbers has its own bits, and no other ones.
func TestEachNumberHasItsBits(t *testing.T) {
	h := headOf(1, 0, loneBooks)
	was, _ := Write(h)
	changed := func(g Head) []int {
		b, e := Write(g)
		if e != api.OK || len(b) != len(was) {
			t.Fatalf("%s: %x, error %d", told(g), b, e)
		}
		var out []int
		for k := range 8 * len(b) {
			if (b[k/8]^was[k/8])>>(k%8)&1 == 1 {
				out = append(out, k)
			}
		}
		return out
	}
	chans, quality := copied(h), copied(h)
	chans.Chans, quality.Quality = 2, 8
	if at := changed(chans); !slices.Equal(at, []int{16}) {
		t.Errorf("channels: bits %v", at)
	}
	if at := changed(quality); !slices.Equal(at, []int{20}) {
		t.Errorf("quality: bits %v", at)
	}
	for s := range 44 {
		g := copied(h)
		g.Floor[44], g.Floor[s] = 0, 1
		if at := changed(g); !slices.Equal(at, []int{21 + 5*s, 21 + 5*44}) {
			t.Errorf("symbol %d of Floor: bits %v", s, at)
		}
	}
	for s := range 15 {
		g := copied(h)
		g.Res[s] = 1
		if at := changed(g); !slices.Equal(at, []int{246 + 5*s}) {
			t.Errorf("symbol %d of Res: bits %v", s, at)
		}
	}
}

// P16.2: Read.

func TestReadByHand(t *testing.T) {
	for text, h := range handWritten() {
		readIs(t, bytesOf(t, text), h)
	}
}

func TestReadOfTooFew(t *testing.T) {
	readFails(t, nil, api.ErrMore)
	readFails(t, []byte{}, api.ErrMore)
	for _, h := range someHeads(0x2545f4914f6cdd1d, 50) {
		b := modelWrite(h)
		for n := range whole {
			readFails(t, b[:n], api.ErrMore)
			readFails(t, slices.Clone(b[:n:n]), api.ErrMore)
		}
	}
	// That bytes lack is told ahead of what else is wrong.
	for n := range whole {
		for _, v := range []byte{0, 1, 0x53, 0x56, 0xff} {
			readFails(t, bytes.Repeat([]byte{v}, n), api.ErrMore)
		}
	}
}

func TestReadOfTooMany(t *testing.T) {
	for _, h := range someHeads(0x6c62272e07bb0142, 50) {
		b := modelWrite(h)
		for _, more := range []int{1, 2, 3, 4, 5, 8, 40, whole, 215, 256, 400, 4000, 65536} {
			readFails(t, append(slices.Clone(b), make([]byte, more)...), api.ErrForm)
		}
		readFails(t, slices.Concat(b, b), api.ErrForm)
		readFails(t, append(slices.Clone(b), 1), api.ErrForm)
		readFails(t, append(slices.Clone(b), 255), api.ErrForm)
	}
	for _, n := range []int{42, 100, 4000, 4001, 65536 + whole} {
		readFails(t, make([]byte, n), api.ErrForm)
		readFails(t, bytes.Repeat([]byte{255}, n), api.ErrForm)
	}
}

func TestReadOfOtherMagic(t *testing.T) {
	h := headOf(2, 9, plainBooks)
	for magic := range uint64(1 << 16) {
		b := modelBytes(modelFields(magic, h))
		if magic == 0x5653 {
			readIs(t, b, h)
		} else {
			readFails(t, b, api.ErrForm)
		}
	}
}

func TestReadOfBitsBehind(t *testing.T) {
	for _, h := range someHeads(0x5851f42d4c957f2d, 200) {
		for v := range uint64(4) {
			b := modelBytes(append(modelFields(0x5653, h), field{v, 2}))
			if v == 0 {
				readIs(t, b, h)
			} else {
				readFails(t, b, api.ErrForm)
			}
		}
	}
}

func TestReadOfOtherQuality(t *testing.T) {
	for chans := 1; chans <= 2; chans++ {
		for quality := range 16 {
			h := headOf(chans, quality, steepBooks)
			b := modelBytes(modelFields(0x5653, h))
			if quality <= 12 {
				readIs(t, b, h)
			} else {
				readFails(t, b, api.ErrForm)
			}
		}
	}
}

// Each length that 5 bits may have, of each symbol.
func TestReadOfOtherLengths(t *testing.T) {
	for _, books := range []func() ([]int, []int){plainBooks, steepBooks, loneBooks} {
		h := headOf(1, 3, books)
		for _, l := range [][]int{h.Floor, h.Res} {
			for s, was := range l {
				for n := range 32 {
					l[s] = n
					readIsModel(t, modelBytes(modelFields(0x5653, h)))
				}
				l[s] = was
			}
		}
	}
	h := headOf(1, 3, plainBooks)
	h.Res = []int{1, 2, 3, 4, 5, 6, 7, 8, 9, 10, 11, 12, 13, 14, 14, 0}
	readFails(t, modelBytes(modelFields(0x5653, h)), api.ErrForm)
}

func TestReadOfEachBitTurned(t *testing.T) {
	for _, h := range someHeads(0x165667b19e3779f9, 20) {
		b := modelWrite(h)
		for k := range 8 * whole {
			b[k/8] ^= 1 << (k % 8)
			readIsModel(t, b)
			if k < 16 || k >= used {
				readFails(t, b, api.ErrForm)
			}
			b[k/8] ^= 1 << (k % 8)
		}
	}
}

func TestReadOfAnyBytes(t *testing.T) {
	x := chance(0x85ebca77c2b2ae63)
	for range 5000 {
		b := make([]byte, 30+x.below(20))
		for i := range b {
			b[i] = byte(x.next() >> 3)
		}
		if len(b) > 2 && x.below(2) == 0 {
			b[0], b[1] = 0x53, 0x56
		}
		readIsModel(t, b)
	}
}

// P16.3

func TestReadOfWrite(t *testing.T) {
	for _, h := range someHeads(0xc2b2ae3d27d4eb4f, 3000) {
		b, e := Write(h)
		if e != api.OK || len(b) != whole {
			t.Fatalf("%s: %d bytes, error %d", told(h), len(b), e)
		}
		readIs(t, b, h)
	}
}

// Headers that are read have been spoilt ahead, so that they are not the ones that were written.
func TestWriteOfRead(t *testing.T) {
	x, read := chance(0x27d4eb2f165667c5), 0
	for _, h := range someHeads(0x9e3779b97f4a7c15, 3000) {
		b := modelWrite(h)
		for range x.below(3) {
			k := 16 + x.below(used-16+2)
			b[k/8] ^= 1 << (k % 8)
		}
		g, e := Read(b)
		if e != api.OK {
			continue
		}
		read++
		if !Right(g) {
			t.Fatalf("%x: %s: not right", b, told(g))
		}
		if again, e := Write(g); e != api.OK || !bytes.Equal(again, b) {
			t.Fatalf("%x: written as %x, error %d", b, again, e)
		}
	}
	if read < 500 {
		t.Errorf("%d are read", read)
	}
}

// P16.4

func TestPlainIsRight(t *testing.T) {
	for chans := -3; chans <= 5; chans++ {
		for quality := -3; quality <= 20; quality++ {
			if chans >= 1 && chans <= 2 && quality >= 0 && quality <= 12 {
				isRight(t, Plain(chans, quality))
			} else {
				isWrong(t, Plain(chans, quality))
			}
		}
	}
}

// The first error is remembered, and nothing is written, or read, behind it.

func TestWriterRemembersTheFirstError(t *testing.T) {
	for _, wrong := range []field{{2, 1}, {1, 0}, {0, 33}} {
		w := writer{}
		w.put(5, 3)
		w.put(int(wrong.v), int(wrong.n))
		w.put(1, 1)
		w.putBook([]int{1, 1})
		if w.first != api.ErrArg || w.N != 3 || !bytes.Equal(w.B, []byte{5}) {
			t.Errorf("%d: %d bits %x, error %d", wrong, w.N, w.B, w.first)
		}
	}
	w := writer{}
	w.put(-1, 5)
	if w.first != api.ErrArg || w.N != 0 {
		t.Errorf("%d bits, error %d", w.N, w.first)
	}
}

func TestReaderRemembersTheFirstError(t *testing.T) {
	r := reader{}
	r.B = []byte{0xfd}
	first, second := r.get(3), r.get(6)
	if first != 5 || second != 0 || r.first != api.ErrMore || r.At != 3 {
		t.Errorf("%d, %d, at %d, error %d", first, second, r.At, r.first)
	}
	if third := r.get(1); third != 0 || r.first != api.ErrMore || r.At != 3 {
		t.Errorf("%d, at %d, error %d", third, r.At, r.first)
	}
}

// R3: what is handed in stays as it is, its spare room too, and what is answered is new memory, of two lists that share none. R4: what was done with an answer is not to be seen in the next one.

// spoil writes over a header's lists, and their spare room.
func spoil(lists ...[]int) {
	for _, l := range lists {
		l = l[:cap(l)]
		for i := range l {
			l[i] = 77
		}
	}
}

// roomy is a list with spare room, which is its own.
func roomy[T any](l []T, spare ...T) []T {
	return append(slices.Clone(l), spare...)[:len(l)]
}

func TestArgumentsStay(t *testing.T) {
	for _, h := range someHeads(0x6a09e667f3bcc909, 300) {
		was, b := copied(h), modelWrite(h)
		h.Floor, h.Res = roomy(h.Floor, 5, 6, 7), roomy(h.Res, 3, 4)
		room := roomy(b, 9, 9, 9)
		Right(h)
		written, _ := Write(h)
		read, _ := Read(room)
		spoil(read.Floor, read.Res)
		for i := range written[:cap(written)] {
			written[:cap(written)][i] = 77
		}
		if !same(h, was) || !slices.Equal(h.Floor[45:48], []int{5, 6, 7}) || !slices.Equal(h.Res[16:18], []int{3, 4}) {
			t.Fatalf("%s: changed", told(was))
		}
		if !bytes.Equal(room, b) || !bytes.Equal(room[whole:whole+3], []byte{9, 9, 9}) {
			t.Fatalf("%x: changed", b)
		}
	}
}

// What is written and read does not follow what its argument becomes.
func TestArgumentsAreNotKept(t *testing.T) {
	for _, h := range someHeads(0xbb67ae8584caa73b, 300) {
		was, want := copied(h), modelWrite(h)
		b, _ := Write(h)
		spoil(h.Floor, h.Res)
		if !bytes.Equal(b, want) {
			t.Fatalf("%s: the bytes follow the header", told(was))
		}
		read, _ := Read(b)
		for i := range b {
			b[i] = 77
		}
		if !same(read, was) {
			t.Fatalf("%s: the header follows the bytes", told(was))
		}
	}
}

func TestAnswersAreNewMemory(t *testing.T) {
	for _, h := range someHeads(0x3c6ef372fe94f82b, 300) {
		b := modelWrite(h)
		first, _ := Write(h)
		second, _ := Write(h)
		for i := range first[:cap(first)] {
			first[:cap(first)][i] = 77
		}
		if !bytes.Equal(second, b) {
			t.Fatalf("%s: two answers share memory", told(h))
		}
		one, _ := Read(b)
		two, _ := Read(b)
		listsAreTheirOwn(t, h, one, two)
		isRight(t, h)
		readIs(t, b, h)
	}
}

func TestPlainAnswersNewMemory(t *testing.T) {
	h := headOf(2, 3, plainBooks)
	listsAreTheirOwn(t, h, Plain(2, 3), Plain(2, 3))
	if !same(Plain(2, 3), h) {
		t.Error("what was done with an answer is seen in the next one")
	}
}

// listsAreTheirOwn spoils the lists of two answers that are as wanted, one by one.
func listsAreTheirOwn(t *testing.T, want, one, two Head) {
	t.Helper()
	spoil(one.Floor)
	if !slices.Equal(one.Res, want.Res) {
		t.Fatalf("%s: both lists of an answer share memory", told(want))
	}
	spoil(one.Res)
	if !same(two, want) {
		t.Fatalf("%s: two answers share memory", told(want))
	}
	spoil(two.Res)
	if !slices.Equal(two.Floor, want.Floor) {
		t.Fatalf("%s: both lists of an answer share memory", told(want))
	}
}
