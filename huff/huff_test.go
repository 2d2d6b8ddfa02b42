package huff

import (
	"bytes"
	"math"
	"math/big"
	"slices"
	"strings"
	"testing"

	"psaltery/api"
	"psaltery/bits"
)

// The tests hold the layer against codes as texts of '0' and '1', and books against fractions of the library.

// chance is a row of numbers that do not repeat soon.
type chance uint64

func (x *chance) below(n int) int {
	*x ^= *x << 13
	*x ^= *x >> 7
	*x ^= *x << 17
	return int(uint64(*x) >> 11 % uint64(n))
}

// modelRight: the chapter's words, by fractions.
func modelRight(l []int) bool {
	used, all := []int{}, new(big.Rat)
	for _, n := range l {
		if n < 0 || n > 16 {
			return false
		}
		if n > 0 {
			used = append(used, n)
			all.Add(all, big.NewRat(1, 1<<n))
		}
	}
	if len(l) < 2 || len(l) > 64 || len(used) == 0 {
		return false
	}
	if len(used) == 1 {
		return used[0] == 1
	}
	return all.Cmp(big.NewRat(1, 1)) == 0
}

// andOne is the text of the next number, of as many bits.
func andOne(s string) string {
	at := strings.LastIndexByte(s, '0')
	if at < 0 {
		return "!" // there is none
	}
	return s[:at] + "1" + strings.Repeat("0", len(s)-at-1)
}

// modelCodes tells each symbol's code, and no text for those that are not used.
func modelCodes(l []int) []string {
	out := make([]string, len(l))
	last := ""
	for n := 1; n <= 16; n++ {
		for s, has := range l {
			if has != n {
				continue
			}
			if last != "" {
				last = andOne(last)
			}
			last += strings.Repeat("0", n-len(last))
			out[s] = last
		}
	}
	return out
}

// value is the number of a code's text, its highest bit first.
func value(s string) uint32 {
	v := uint32(0)
	for _, c := range s {
		v = v*2 + uint32(c-'0')
	}
	return v
}

// packed are the bytes that have a text's bits, the lowest one of a byte first.
func packed(s string) []byte {
	b := make([]byte, (len(s)+7)/8)
	for i, c := range s {
		if c == '1' {
			b[i/8] += 1 << (i % 8)
		}
	}
	return b
}

func writer(s string) bits.Writer {
	return bits.Writer{B: packed(s), N: len(s)}
}

// pattern is n bits by chance.
func pattern(x chance, n int) string {
	var s strings.Builder
	for range n {
		s.WriteByte("01"[x.below(2)])
	}
	return s.String()
}

func sameWriter(a, b bits.Writer) bool {
	return a.N == b.N && bytes.Equal(a.B, b.B)
}

// sameReader: the same place of the very same bytes?
func sameReader(a, b bits.Reader) bool {
	return a.At == b.At && len(a.B) == len(b.B) && (len(a.B) == 0 || &a.B[0] == &b.B[0])
}

// book is so many symbols of so many bits each.
func book(n, each int) []int {
	return slices.Repeat([]int{each}, n)
}

// staircase is the book 1, 2 .. up to n, and n once more.
func staircase(n int) []int {
	var l []int
	for k := 1; k <= n; k++ {
		l = append(l, k)
	}
	return append(l, n)
}

// alone is a book of n symbols of which one is used, with 1 bit.
func alone(n, s int) []int {
	l := book(n, 0)
	l[s] = 1
	return l
}

// anyBook is a right book by chance: one leaf is split until there are enough, then some that are not used are laid between.
func anyBook(x *chance) []int {
	l := []int{1, 1}
	for range x.below(63) {
		at := x.below(len(l))
		if x.below(3) == 0 {
			at = len(l) - 1
		}
		if l[at] < api.MaxLen {
			l[at]++
			l = append(l, l[at])
		}
	}
	for len(l) < api.MaxSyms && x.below(3) != 0 {
		l = append(l, 0)
	}
	for i := range l {
		j := x.below(i + 1)
		l[i], l[j] = l[j], l[i]
	}
	return l
}

// edgeBooks are the right books at the bounds that the chapter names.
func edgeBooks() [][]int {
	return [][]int{
		{1, 1}, {1, 2, 0, 2}, {0, 1}, {1, 0}, {2, 2, 2, 2}, {2, 1, 2}, {0, 0, 1, 0, 1, 0},
		staircase(2), staircase(15), staircase(16), append(staircase(16), book(47, 0)...), append(book(47, 0), staircase(16)...),
		book(64, 6), book(32, 5), append(book(62, 0), 1, 1), append(book(32, 0), book(32, 5)...),
		alone(2, 0), alone(64, 0), alone(64, 63), alone(64, 31),
		{16, 16, 15, 14, 13, 12, 11, 10, 9, 8, 7, 6, 5, 4, 3, 2, 1},
	}
}

// rightBooks are the edges and books by chance.
func rightBooks() [][]int {
	out := edgeBooks()
	x := chance(0x9e3779b97f4a7c15)
	for range 300 {
		out = append(out, anyBook(&x))
	}
	return out
}

// wrongBooks are lists that are no right books.
func wrongBooks() [][]int {
	return [][]int{
		nil, {}, {0}, {1}, {2}, {-1}, {0, 0}, {0, 2}, {2, 0}, {0, 16}, {0, 17}, {16, 16},
		{1, 1, 1}, {1, 1, 16}, {2, 2, 2}, {1, 2}, {1, 2, 2, 2}, {1, 2, 3}, {1, 2, 3, 4},
		{1, 1, -1}, {-1, 1}, {-1, 1, 1}, {1, -1}, {1, 1, 17}, {1, 17}, {17, 1}, {1, 1, 32}, {1, 1, 64}, {1, 1, 80},
		{1, 1, math.MinInt}, {1, 1, math.MaxInt}, {math.MinInt, 1}, {math.MaxInt, 1}, {math.MaxInt, math.MaxInt}, {math.MinInt, math.MinInt},
		{-15, -15}, {-16, 1, 1}, {1, 1, -48}, {1, 1, 1 << 32}, {1 << 32, 1, 1}, {1<<32 + 1, 1},
		staircase(17), staircase(16)[:16], append(staircase(16), 16), append(staircase(16), 17), append(staircase(15)[:15], 16),
		book(64, 5), book(64, 7), book(64, 1), book(64, 0), book(64, 16), book(63, 6), book(65, 6), book(65, 0), book(128, 7), book(256, 8),
		append(book(63, 0), 1, 1), append([]int{1, 1}, book(63, 0)...), alone(65, 0), alone(65, 64), append(book(63, 0), 2),
		book(1<<16, 16), book(1<<17, 0),
	}
}

// P4.1: Right.

func TestRightEdges(t *testing.T) {
	for _, l := range rightBooks() {
		if !modelRight(l) || !Right(l) {
			t.Errorf("%v: not right", l)
		}
	}
	for _, l := range wrongBooks() {
		if modelRight(l) || Right(l) {
			t.Errorf("%v: right", l)
		}
	}
}

// everyBook hands each list of up to five numbers from -1 to 5 to a call.
func everyBook(look func(l []int)) {
	for n := range 6 {
		l := book(n, -1)
		for {
			look(l)
			at := 0
			for at < n && l[at] == 5 {
				l[at] = -1
				at++
			}
			if at == n {
				break
			}
			l[at]++
		}
	}
}

func TestRightEvery(t *testing.T) {
	right := 0
	everyBook(func(l []int) {
		if Right(l) != modelRight(l) {
			t.Errorf("%v: %v", l, Right(l))
		}
		if Right(l) {
			right++
		}
	})
	if right == 0 {
		t.Error("none is right")
	}
}

// A right book that is changed in one place, or has one symbol more or less.
func TestRightSpoilt(t *testing.T) {
	x := chance(0x2545f4914f6cdd1d)
	for _, l := range rightBooks() {
		for range 20 {
			m := slices.Clone(l)
			switch x.below(3) {
			case 0:
				m[x.below(len(m))] = x.below(19) - 1
			case 1:
				m = slices.Insert(m, x.below(len(m)+1), x.below(18))
			case 2:
				at := x.below(len(m))
				m = slices.Delete(m, at, at+1)
			}
			if Right(m) != modelRight(m) {
				t.Fatalf("%v: %v", m, Right(m))
			}
		}
	}
}

// P4.1: Codes.

func TestCodesExamples(t *testing.T) {
	for _, c := range []struct {
		l    []int
		want []uint32
	}{
		{[]int{1, 2, 0, 2}, []uint32{0, 2, 0, 3}},
		{[]int{1, 1}, []uint32{0, 1}},
		{[]int{0, 1}, []uint32{0, 0}},
		{[]int{2, 1, 2}, []uint32{2, 0, 3}},
		{[]int{3, 3, 2, 1}, []uint32{6, 7, 2, 0}},
		{[]int{3, 0, 1, 3, 2}, []uint32{6, 0, 0, 7, 2}},
		{[]int{1, 5, 5, 5, 5, 5, 5, 5, 5, 2}, []uint32{0, 24, 25, 26, 27, 28, 29, 30, 31, 2}},
	} {
		if got, e := Codes(c.l); e != api.OK || !slices.Equal(got, c.want) {
			t.Errorf("%v: %v, error %d", c.l, got, e)
		}
	}
}

func TestCodesAny(t *testing.T) {
	for _, l := range rightBooks() {
		got, e := Codes(l)
		if e != api.OK || len(got) != len(l) {
			t.Fatalf("%v: %v, error %d", l, got, e)
		}
		for s, want := range modelCodes(l) {
			if got[s] != value(want) {
				t.Errorf("%v: symbol %d has %b, not %s", l, s, got[s], want)
			}
		}
	}
}

func TestCodesWrong(t *testing.T) {
	for _, l := range wrongBooks() {
		if got, e := Codes(l); e != api.ErrArg || len(got) != 0 {
			t.Errorf("%v: %v, error %d", l, got, e)
		}
	}
}

// P4.2: Write.

func TestWriteExample(t *testing.T) {
	w, l := bits.Writer{}, []int{1, 2, 0, 2}
	for _, s := range []int{3, 0, 1} {
		var e api.Errno
		if w, e = Write(w, l, s); e != api.OK {
			t.Fatalf("%d: error %d", s, e)
		}
	}
	if w.N != 5 || !bytes.Equal(w.B, []byte{0x0b}) {
		t.Errorf("%x, %d bits", w.B, w.N)
	}
}

func TestWriteAny(t *testing.T) {
	for i, l := range rightBooks() {
		old := pattern(chance(i+1), i%19)
		for s, c := range modelCodes(l) {
			w, e := Write(writer(old), l, s)
			if c == "" {
				if e != api.ErrArg || !sameWriter(w, writer(old)) {
					t.Errorf("%v: %d, which is not used: %d bits, error %d", l, s, w.N, e)
				}
			} else if e != api.OK || !sameWriter(w, writer(old+c)) {
				t.Errorf("%v: %d behind %q: %x, %d bits, error %d", l, s, old, w.B, w.N, e)
			}
		}
	}
}

// wrongSymbols are numbers that are no symbols of l, and those that it doesn't use.
func wrongSymbols(l []int) []int {
	out := []int{-1, -2, len(l), len(l) + 1, api.MaxSyms, math.MinInt, math.MaxInt}
	for s, n := range l {
		if n == 0 {
			out = append(out, s)
		}
	}
	return out
}

// wrongWriters are writers that are not right.
func wrongWriters() []bits.Writer {
	return []bits.Writer{
		{N: 1}, {N: -1}, {B: []byte{0}}, {B: []byte{2}, N: 1}, {B: []byte{1, 2, 3}, N: 8}, {B: []byte{1}, N: 9},
		{N: math.MinInt}, {N: math.MaxInt}, {B: []byte{7}, N: math.MaxInt},
		{B: make([]byte, api.MaxBits/8), N: api.MaxBits + 1}, {B: make([]byte, api.MaxBits/8+1), N: api.MaxBits + 1},
	}
}

// writeWrong holds that ErrArg is told, beside one writer, at every wrong book and symbol.
func writeWrong(t *testing.T, w, want bits.Writer) {
	t.Helper()
	look := func(l []int, s int) {
		if x, e := Write(w, l, s); e != api.ErrArg || !sameWriter(x, want) {
			t.Errorf("%v: %d behind %d bits: %d bytes, %d bits, error %d", l, s, w.N, len(x.B), x.N, e)
		}
	}
	for _, l := range edgeBooks() {
		for _, s := range wrongSymbols(l) {
			look(l, s)
		}
	}
	for _, l := range wrongBooks() {
		for _, s := range []int{0, 1, 63} {
			look(l, s)
		}
	}
}

// P4.2: what may not be is told ahead of the writer's being full, beside the writer as it was.
func TestWriteWrong(t *testing.T) {
	for _, w := range []bits.Writer{
		{}, writer(""), writer("1"), writer("11111111"), writer(pattern(5, 77)), writer(pattern(6, api.MaxBits-1)), writer(pattern(6, api.MaxBits)),
	} {
		writeWrong(t, w, w)
	}
}

// P4.2, with chapter 1's word on writers that are not right: the zero one stands in their place, with an error too.
func TestWriteWrongBehindWrongWriters(t *testing.T) {
	for _, w := range wrongWriters() {
		writeWrong(t, w, bits.Writer{})
	}
}

// P4.2: a code is written whole or not at all, at each number of bits that there is room for.
func TestWriteFull(t *testing.T) {
	l := staircase(16)
	codes := modelCodes(l)
	for room := range 18 {
		old := pattern(7, api.MaxBits-room)
		for s, c := range codes {
			w, e := Write(writer(old), l, s)
			if len(c) <= room {
				if e != api.OK || !sameWriter(w, writer(old+c)) {
					t.Errorf("%d bits with room for %d: %d bits, error %d", len(c), room, w.N, e)
				}
			} else if e != api.ErrFull || !sameWriter(w, writer(old)) {
				t.Errorf("%d bits with room for %d: %d bits, error %d", len(c), room, w.N, e)
			}
		}
	}
}

// P4.2, with chapter 1's word on writers that are not right: a symbol is written behind the zero one.
func TestWriteBehindWrongWriters(t *testing.T) {
	l := []int{1, 2, 0, 2}
	for _, w := range wrongWriters() {
		if x, e := Write(w, l, 3); e != api.OK || !sameWriter(x, writer("11")) {
			t.Errorf("behind %d bits: %x, %d bits, error %d", w.N, x.B, x.N, e)
		}
	}
}

// P4.3: Read.

// modelRead tells how many bits a symbol takes, and which it is.
func modelRead(text string, codes []string) (int, int, api.Errno) {
	used := 0
	for s, c := range codes {
		if c == "" {
			continue
		}
		used++
		if strings.HasPrefix(text, c) {
			return len(c), s, api.OK
		}
	}
	if used == 1 && strings.HasPrefix(text, "1") {
		return 0, 0, api.ErrForm
	}
	return 0, 0, api.ErrMore
}

// readAt holds one Read against the model.
func readAt(t *testing.T, l []int, text string, at int) (bits.Reader, api.Errno) {
	t.Helper()
	r := bits.Reader{B: packed(text), At: at}
	x, s, e := Read(r, l)
	took, wantS, wantE := modelRead(text[at:], modelCodes(l))
	if e != wantE || s != wantS || !sameReader(x, bits.Reader{B: r.B, At: at + took}) {
		t.Fatalf("%v: %q at %d: symbol %d, at %d, error %d; want %d, %d, %d", l, text, at, s, x.At, e, wantS, at+took, wantE)
	}
	return x, e
}

func TestReadAny(t *testing.T) {
	for i, l := range rightBooks() {
		text := pattern(chance(i+100), 64)
		for at := range 65 {
			readAt(t, l, text, at)
		}
	}
}

// P4.3: each code alone, and each beginning of it at the bits' end.
func TestReadEveryCode(t *testing.T) {
	for _, l := range edgeBooks() {
		for _, c := range modelCodes(l) {
			for cut := range len(c) + 1 {
				text := strings.Repeat("0", 32-cut) + c[:cut]
				readAt(t, l, text, 32-cut)
			}
		}
	}
}

// P4.3: a book with one symbol alone: nought is it, one is nothing's, and without a bit there is too little.
func TestReadAlone(t *testing.T) {
	for _, l := range [][]int{alone(2, 0), alone(2, 1), alone(64, 0), alone(64, 63)} {
		want := slices.Index(l, 1)
		b := []byte{0xfe}
		if x, s, e := Read(bits.Reader{B: b}, l); e != api.OK || s != want || !sameReader(x, bits.Reader{B: b, At: 1}) {
			t.Errorf("nought: %d, error %d", s, e)
		}
		for at := 1; at < 8; at++ {
			r := bits.Reader{B: b, At: at}
			if x, s, e := Read(r, l); e != api.ErrForm || s != 0 || !sameReader(x, r) {
				t.Errorf("one at %d: %d, error %d", at, s, e)
			}
		}
		r := bits.Reader{B: b, At: 8}
		if x, s, e := Read(r, l); e != api.ErrMore || s != 0 || !sameReader(x, r) {
			t.Errorf("none: %d, error %d", s, e)
		}
	}
}

// readWrong holds that one error is told, beside the reader as it is, and 0.
func readWrong(t *testing.T, r bits.Reader, l []int, want api.Errno) {
	t.Helper()
	if x, s, e := Read(r, l); e != want || s != 0 || !sameReader(x, r) {
		t.Errorf("%v: %d bytes at %d: symbol %d, at %d, error %d, not %d", l, len(r.B), r.At, s, x.At, e, want)
	}
}

// P4.3: what may not be is told ahead of the bits' end; beyond the end there are too few.
func TestReadWrong(t *testing.T) {
	for _, b := range [][]byte{nil, {}, {0}, {0xff, 0xff, 0xff}} {
		for _, l := range wrongBooks() {
			for _, at := range []int{0, 3, 100, -1, math.MinInt, math.MaxInt} {
				readWrong(t, bits.Reader{B: b, At: at}, l, api.ErrArg)
			}
		}
		for _, l := range edgeBooks() {
			for _, at := range []int{-1, -8, -24, math.MinInt, math.MinInt + 1} {
				readWrong(t, bits.Reader{B: b, At: at}, l, api.ErrArg)
			}
			for _, at := range []int{8 * len(b), 8*len(b) + 1, 100, math.MaxInt - 1, math.MaxInt} {
				readWrong(t, bits.Reader{B: b, At: at}, l, api.ErrMore)
			}
		}
	}
}

// usedSymbols are those that have bits.
func usedSymbols(l []int) []int {
	var out []int
	for s, n := range l {
		if n > 0 {
			out = append(out, s)
		}
	}
	return out
}

// P4.4
func TestWrittenIsRead(t *testing.T) {
	x := chance(0xd1b54a32d192ed03)
	for _, l := range rightBooks() {
		used := usedSymbols(l)
		w := writer(pattern(x, x.below(20)))
		r := bits.Reader{At: w.N}
		var row []int
		for range 60 {
			s := used[x.below(len(used))]
			var e api.Errno
			if w, e = Write(w, l, s); e != api.OK {
				t.Fatalf("%v: %d: error %d", l, s, e)
			}
			row = append(row, s)
		}
		r.B = w.B
		for i, want := range row {
			y, s, e := Read(r, l)
			if e != api.OK || s != want {
				t.Fatalf("%v: the symbol %d of %v: %d, error %d", l, i, row, s, e)
			}
			r = y
		}
		if r.At != w.N {
			t.Errorf("%v: written %d bits, read %d", l, w.N, r.At)
		}
	}
}

// P4.4: symbols of several books, one behind the other.
func TestWrittenIsReadByManyBooks(t *testing.T) {
	x := chance(0x853c49e6748fea9b)
	books, w := rightBooks(), bits.Writer{}
	for _, l := range books {
		used := usedSymbols(l)
		var e api.Errno
		if w, e = Write(w, l, used[len(used)-1-x.below(len(used))/2]); e != api.OK {
			t.Fatalf("%v: error %d", l, e)
		}
	}
	x = chance(0x853c49e6748fea9b)
	r := bits.Reader{B: w.B}
	for _, l := range books {
		used := usedSymbols(l)
		y, s, e := Read(r, l)
		if want := used[len(used)-1-x.below(len(used))/2]; e != api.OK || s != want {
			t.Fatalf("%v: %d, not %d, error %d", l, s, want, e)
		}
		r = y
	}
}

// P4.5
func TestNoCodeBeginsAnother(t *testing.T) {
	for _, l := range rightBooks() {
		codes, e := Codes(l)
		if e != api.OK {
			t.Fatalf("%v: error %d", l, e)
		}
		used := usedSymbols(l)
		for _, a := range used {
			for _, b := range used {
				if a != b && l[a] <= l[b] && codes[b]>>(l[b]-l[a]) == codes[a] {
					t.Errorf("%v: the code of %d begins that of %d", l, a, b)
				}
			}
		}
	}
}

// P4.6
func TestAnyBitsAreRead(t *testing.T) {
	for i, l := range rightBooks() {
		used := usedSymbols(l)
		if len(used) < 2 {
			continue
		}
		texts := []string{pattern(chance(i+7), 400), strings.Repeat("0", 48), strings.Repeat("1", 48), ""}
		for _, text := range texts {
			at, e := 0, api.OK
			for e == api.OK {
				var r bits.Reader
				r, e = readAt(t, l, text, at)
				if e == api.OK && r.At <= at {
					t.Fatalf("%v: at %d, then at %d", l, at, r.At)
				}
				at = r.At
			}
			if e != api.ErrMore || len(text)-at >= slices.Max(l) {
				t.Fatalf("%v: at %d of %d: error %d", l, at, len(text), e)
			}
		}
	}
}

// R3: what is handed in stays as it is, and no answer shares memory with it, nor with another one.

// spoil writes over all of a list, the spare room too.
func spoil[T any](b []T, with T) {
	for i := range b[:cap(b)] {
		b[:cap(b)][i] = with
	}
}

func TestCodesAreNewMemory(t *testing.T) {
	l := []int{1, 2, 0, 2}
	a, _ := Codes(l)
	spoil(a, 99)
	if b, e := Codes(l); e != api.OK || !slices.Equal(b, []uint32{0, 2, 0, 3}) || !slices.Equal(l, []int{1, 2, 0, 2}) {
		t.Errorf("%v, error %d, book %v", b, e, l)
	}
}

func TestWriteIsNewMemory(t *testing.T) {
	l := []int{1, 2, 0, 2}
	full := writer(pattern(3, api.MaxBits))
	for _, c := range []struct {
		w bits.Writer
		s int
	}{{writer("101"), 3}, {writer("101"), 2}, {writer("101"), -1}, {full, 3}, {full, 2}} {
		room := append(slices.Clone(c.w.B), 0xaa, 0xaa, 0xaa)
		in := bits.Writer{B: room[:len(c.w.B)], N: c.w.N}
		out, _ := Write(in, l, c.s)
		if !sameWriter(in, c.w) || !bytes.Equal(room[len(in.B):], []byte{0xaa, 0xaa, 0xaa}) {
			t.Errorf("symbol %d behind %d bits: the writer is changed", c.s, c.w.N)
		}
		spoil(out.B, 0x55)
		if !sameWriter(in, c.w) || !bytes.Equal(room[len(in.B):], []byte{0xaa, 0xaa, 0xaa}) {
			t.Errorf("symbol %d behind %d bits: the answer shares its memory", c.s, c.w.N)
		}
	}
	if !slices.Equal(l, []int{1, 2, 0, 2}) {
		t.Errorf("the book is changed: %v", l)
	}
}

// R3: a writer that isn't right is handed in, and stays as it is too.
func TestWrongWritersStay(t *testing.T) {
	for _, w := range wrongWriters() {
		was := slices.Clone(w.B)
		for _, s := range []int{3, 2, -1} {
			out, _ := Write(w, []int{1, 2, 0, 2}, s)
			spoil(out.B, 0x55)
			if !bytes.Equal(w.B, was) {
				t.Errorf("symbol %d behind %d bits: the writer is changed", s, w.N)
			}
		}
	}
}

func TestReadChangesNothing(t *testing.T) {
	l, b := []int{1, 2, 0, 2}, []byte{0x0b, 0xff}
	for at := -1; at < 18; at++ {
		Read(bits.Reader{B: b, At: at}, l)
	}
	if !bytes.Equal(b, []byte{0x0b, 0xff}) || !slices.Equal(l, []int{1, 2, 0, 2}) {
		t.Errorf("bytes %x, book %v", b, l)
	}
}

// R3, R4: spare room behind a book is no part of it.
func TestSpareRoomIsNotRead(t *testing.T) {
	room := []int{1, 2, 0, 2, 1, 1, 1}
	l := room[:4]
	if codes, e := Codes(l); e != api.OK || len(codes) != 4 || !Right(l) || Right(room[:3]) || Right(room[:5]) {
		t.Errorf("%v, error %d", codes, e)
	}
	if _, e := Write(bits.Writer{}, l, 4); e != api.ErrArg {
		t.Errorf("error %d", e)
	}
}
