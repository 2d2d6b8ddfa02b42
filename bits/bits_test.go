package bits

import (
	"bytes"
	"math"
	"strings"
	"testing"

	"psaltery/api"
)

// The tests hold the layer against texts of '0' and '1', bit 0 first, which share no shift with it.

// numberText tells a number's n bits, the lowest one first.
func numberText(v uint64, n int) string {
	var s strings.Builder
	for range n {
		s.WriteByte("01"[v%2])
		v /= 2
	}
	return s.String()
}

// textNumber is the number that such a text tells.
func textNumber(s string) uint64 {
	v, worth := uint64(0), uint64(1)
	for _, c := range s {
		if c == '1' {
			v += worth
		}
		worth *= 2
	}
	return v
}

// bytesText tells all bits of bytes.
func bytesText(b []byte) string {
	var s strings.Builder
	for _, x := range b {
		s.WriteString(numberText(uint64(x), 8))
	}
	return s.String()
}

// textWriter is the right writer that has the bits of a text.
func textWriter(s string) Writer {
	w := Writer{N: len(s)}
	for len(s)%8 != 0 {
		s += "0"
	}
	for ; s != ""; s = s[8:] {
		w.B = append(w.B, byte(textNumber(s[:8])))
	}
	return w
}

// pattern is n bits that do not repeat soon.
func pattern(n int) string {
	var s strings.Builder
	x := uint32(0x2545f491)
	for range n {
		x ^= x << 13
		x ^= x >> 17
		x ^= x << 5
		s.WriteByte("01"[x>>9&1])
	}
	return s.String()
}

// widthValues are the numbers at the edges of a width, and some between.
func widthValues(n int) []uint64 {
	top := uint64(1) << n
	return []uint64{0, 1 % top, top / 2, top - 1, 0x5555555555555555 % top, 0xaaaaaaaaaaaaaaaa % top, 0x9e3779b97f4a7c15 % top}
}

func sameWriter(a, b Writer) bool {
	return a.N == b.N && bytes.Equal(a.B, b.B)
}

// sameReader: the same place of the very same bytes?
func sameReader(a, b Reader) bool {
	return a.At == b.At && len(a.B) == len(b.B) && (len(a.B) == 0 || &a.B[0] == &b.B[0])
}

func mustPut(t *testing.T, w Writer, v uint64, n int) Writer {
	t.Helper()
	x, e := Put(w, v, n)
	if e != api.OK {
		t.Fatalf("Put of %d in %d bits behind %d: error %d", v, n, w.N, e)
	}
	return x
}

func mustGet(t *testing.T, r Reader, n int) (Reader, uint64) {
	t.Helper()
	x, v, e := Get(r, n)
	if e != api.OK {
		t.Fatalf("Get of %d bits at %d: error %d", n, r.At, e)
	}
	return x, v
}

var rightCases = []struct {
	name string
	w    Writer
	want bool
}{
	{"zero", Writer{}, true},
	{"empty list", Writer{B: []byte{}}, true},
	{"no bits, one byte", Writer{B: []byte{0}}, false},
	{"one bit", Writer{B: []byte{1}, N: 1}, true},
	{"one bit that is 0", Writer{B: []byte{0}, N: 1}, true},
	{"one bit, and one behind it", Writer{B: []byte{2}, N: 1}, false},
	{"one bit, and the highest", Writer{B: []byte{0x80}, N: 1}, false},
	{"seven bits", Writer{B: []byte{0x7f}, N: 7}, true},
	{"seven bits, and the eighth", Writer{B: []byte{0x80}, N: 7}, false},
	{"eight bits", Writer{B: []byte{0xff}, N: 8}, true},
	{"eight bits, two bytes", Writer{B: []byte{0xff, 0}, N: 8}, false},
	{"nine bits, one byte", Writer{B: []byte{0xff}, N: 9}, false},
	{"nine bits", Writer{B: []byte{0xff, 1}, N: 9}, true},
	{"nine bits, and the tenth", Writer{B: []byte{0xff, 2}, N: 9}, false},
	{"bits without bytes", Writer{N: 1}, false},
	{"below 0", Writer{N: -1}, false},
	{"below 0, with a byte", Writer{B: []byte{0}, N: -1}, false},
	{"below 0 by a byte", Writer{N: -8}, false},
	{"the least number", Writer{N: math.MinInt}, false},
	{"the greatest number", Writer{N: math.MaxInt}, false},
	{"the greatest number, with a byte", Writer{B: []byte{0}, N: math.MaxInt}, false},
	{"just below MaxBits", Writer{B: make([]byte, api.MaxBits/8), N: api.MaxBits - 1}, true},
	{"MaxBits", Writer{B: make([]byte, api.MaxBits/8), N: api.MaxBits}, true},
	{"beyond MaxBits", Writer{B: make([]byte, api.MaxBits/8+1), N: api.MaxBits + 1}, false},
	{"a byte beyond MaxBits", Writer{B: make([]byte, api.MaxBits/8+1), N: api.MaxBits + 8}, false},
	{"MaxBits, a byte too few", Writer{B: make([]byte, api.MaxBits/8-1), N: api.MaxBits}, false},
}

// P1.1
func TestRight(t *testing.T) {
	for _, c := range rightCases {
		if got := Right(c.w); got != c.want {
			t.Errorf("%s: %v", c.name, got)
		}
	}
	for n := range 40 {
		if w := textWriter(strings.Repeat("1", n)); !Right(w) {
			t.Errorf("%d bits: not right", n)
		}
	}
}

// P1.1: each single bit behind the last one spoils a writer, and each one ahead of it doesn't.
func TestRightEveryBit(t *testing.T) {
	for n := range 26 {
		for at := range bytesFor(n) * 8 {
			s := []byte(strings.Repeat("0", bytesFor(n)*8))
			s[at] = '1'
			w := textWriter(string(s))
			w.N = n
			if got := Right(w); got != (at < n) {
				t.Errorf("%d bits, with the bit %d: %v", n, at, got)
			}
		}
	}
}

// P1.1: every width behind every place of a byte.
func TestPutEveryWidth(t *testing.T) {
	for before := range 19 {
		for n := 0; n <= 32; n++ {
			for _, v := range widthValues(n) {
				old := pattern(before)
				w, e := Put(textWriter(old), v, n)
				want := textWriter(old + numberText(v, n))
				if e != api.OK || !sameWriter(w, want) {
					t.Fatalf("%d in %d bits behind %q: %x, %d, error %d", v, n, old, w.B, w.N, e)
				}
			}
		}
	}
}

// P1.1: each number that is wrong is told, and the writer answered as it was.
func TestPutWrongNumbers(t *testing.T) {
	for _, old := range []string{"", "1", "10110", pattern(24), pattern(api.MaxBits)} {
		w := textWriter(old)
		for _, n := range []int{-1, -8, -32, -64, 33, 34, 63, 64, 65, 256, math.MinInt, math.MaxInt} {
			for _, v := range []uint64{0, 1, math.MaxUint64} {
				if x, e := Put(w, v, n); e != api.ErrArg || !sameWriter(x, w) {
					t.Errorf("%d in %d bits behind %d: %d bits, error %d", v, n, w.N, x.N, e)
				}
			}
		}
		for n := 0; n <= 32; n++ {
			for _, v := range []uint64{1 << n, 1<<n + 1, 1 << 33, 1 << 63, math.MaxUint64} {
				if x, e := Put(w, v, n); e != api.ErrArg || !sameWriter(x, w) {
					t.Errorf("%d in %d bits behind %d: %d bits, error %d", v, n, w.N, x.N, e)
				}
			}
		}
	}
}

// P1.1: up to MaxBits, and not beyond.
func TestPutFull(t *testing.T) {
	for short := range 35 {
		old := pattern(api.MaxBits - short)
		w := textWriter(old)
		for n := 0; n <= 32; n++ {
			v := uint64(1)<<n - 1
			x, e := Put(w, v, n)
			if n > short {
				if e != api.ErrFull || !sameWriter(x, w) {
					t.Errorf("%d bits, %d short: %d bits, error %d", n, short, x.N, e)
				}
			} else if e != api.OK || !sameWriter(x, textWriter(old+numberText(v, n))) {
				t.Errorf("%d bits, %d short: %d bits, error %d", n, short, x.N, e)
			}
		}
	}
}

// P1.1, R2: a full writer and a wrong number: ErrArg is named first.
func TestPutErrorOrder(t *testing.T) {
	w := textWriter(pattern(api.MaxBits))
	if _, e := Put(w, 2, 1); e != api.ErrArg {
		t.Errorf("a number too great: error %d", e)
	}
	if _, e := Put(w, 0, 33); e != api.ErrArg {
		t.Errorf("too wide: error %d", e)
	}
	if _, e := Put(w, 1, 1); e != api.ErrFull {
		t.Errorf("a right number: error %d", e)
	}
}

// P1.1: the zero writer stands in the place of one that isn't right, with an error too.
func TestPutNotRight(t *testing.T) {
	for _, c := range rightCases {
		if c.want {
			continue
		}
		if x, e := Put(c.w, 5, 3); e != api.OK || !sameWriter(x, Writer{B: []byte{5}, N: 3}) {
			t.Errorf("%s: %x, %d, error %d", c.name, x.B, x.N, e)
		}
		if x, e := Put(c.w, 0, 0); e != api.OK || !sameWriter(x, Writer{}) {
			t.Errorf("%s, no bits: %x, %d, error %d", c.name, x.B, x.N, e)
		}
		if x, e := Put(c.w, 8, 3); e != api.ErrArg || !sameWriter(x, Writer{}) {
			t.Errorf("%s, a wrong number: %x, %d, error %d", c.name, x.B, x.N, e)
		}
		if x, e := Put(c.w, 0, -1); e != api.ErrArg || !sameWriter(x, Writer{}) {
			t.Errorf("%s, a wrong width: %x, %d, error %d", c.name, x.B, x.N, e)
		}
	}
}

// P1.2: every width at every place, to the end of the bytes and beyond.
func TestGetEveryWidth(t *testing.T) {
	for size := range 7 {
		b := textWriter(pattern(size * 8)).B
		s := bytesText(b)
		for at := range size*8 + 3 {
			for n := 0; n <= 32; n++ {
				r := Reader{B: b, At: at}
				x, v, e := Get(r, n)
				if at+n > len(s) {
					if e != api.ErrMore || v != 0 || !sameReader(x, r) {
						t.Fatalf("%d bits at %d of %d bytes: %d, at %d, error %d", n, at, size, v, x.At, e)
					}
				} else if e != api.OK || v != textNumber(s[at:at+n]) || !sameReader(x, Reader{B: b, At: at + n}) {
					t.Fatalf("%d bits at %d of %d bytes: %d, at %d, error %d", n, at, size, v, x.At, e)
				}
			}
		}
	}
}

// P1.2: all bits set: none is lost, none comes from beside.
func TestGetAllOnes(t *testing.T) {
	b := bytes.Repeat([]byte{0xff}, 6)
	for n := 0; n <= 32; n++ {
		if _, v := mustGet(t, Reader{B: b, At: 5}, n); v != 1<<n-1 {
			t.Errorf("%d bits: %x", n, v)
		}
	}
}

// P1.2: readers are not held to MaxBits.
func TestGetLong(t *testing.T) {
	b := make([]byte, api.MaxBits/8+4)
	b[len(b)-1] = 0xa0
	r, v := mustGet(t, Reader{B: b, At: api.MaxBits + 28}, 4)
	if v != 10 || Left(r) != 0 {
		t.Errorf("%d, %d left", v, Left(r))
	}
}

// P1.2: wrong widths and places; the reader is answered as it is, also one far beyond its bytes.
func TestGetErrors(t *testing.T) {
	b := []byte{0xfd, 0x0f}
	for _, c := range []struct {
		r    Reader
		n    int
		want api.Errno
	}{
		{Reader{B: b}, -1, api.ErrArg},
		{Reader{B: b}, 33, api.ErrArg},
		{Reader{B: b}, 64, api.ErrArg},
		{Reader{B: b}, math.MinInt, api.ErrArg},
		{Reader{B: b}, math.MaxInt, api.ErrArg},
		{Reader{B: b, At: -1}, 0, api.ErrArg},
		{Reader{B: b, At: -1}, 1, api.ErrArg},
		{Reader{B: b, At: -1}, 32, api.ErrArg},
		{Reader{B: b, At: -8}, 8, api.ErrArg},
		{Reader{B: b, At: math.MinInt}, 32, api.ErrArg},
		{Reader{B: b, At: math.MinInt}, -1, api.ErrArg},
		{Reader{B: b, At: 17}, -1, api.ErrArg},
		{Reader{B: b, At: 17}, 33, api.ErrArg},
		{Reader{B: b, At: 16}, 1, api.ErrMore},
		{Reader{B: b, At: 12}, 5, api.ErrMore},
		{Reader{B: b, At: 17}, 0, api.ErrMore},
		{Reader{B: b, At: 17}, 32, api.ErrMore},
		{Reader{B: b, At: math.MaxInt}, 0, api.ErrMore},
		{Reader{B: b, At: math.MaxInt}, 1, api.ErrMore},
		{Reader{B: b, At: math.MaxInt}, 32, api.ErrMore},
		{Reader{B: b, At: math.MaxInt - 31}, 32, api.ErrMore},
		{Reader{}, 1, api.ErrMore},
		{Reader{}, 33, api.ErrArg},
		{Reader{At: -1}, 0, api.ErrArg},
		{Reader{At: 1}, 0, api.ErrMore},
		{Reader{B: []byte{}}, 32, api.ErrMore},
		{Reader{B: []byte{}, At: 1}, 0, api.ErrMore},
	} {
		x, v, e := Get(c.r, c.n)
		if e != c.want || v != 0 || !sameReader(x, c.r) {
			t.Errorf("%d bits at %d of %d bytes: %d, at %d, error %d", c.n, c.r.At, len(c.r.B), v, x.At, e)
		}
	}
}

// P1.2: nothing can always be read, up to the very end.
func TestGetNothing(t *testing.T) {
	for _, r := range []Reader{{}, {B: []byte{}}, {B: []byte{255}}, {B: []byte{255}, At: 7}, {B: []byte{255}, At: 8}} {
		if x, v := mustGet(t, r, 0); v != 0 || !sameReader(x, r) {
			t.Errorf("at %d of %d bytes: %d, at %d", r.At, len(r.B), v, x.At)
		}
	}
}

// P1.2
func TestLeft(t *testing.T) {
	three := []byte{1, 2, 3}
	for _, c := range []struct {
		r    Reader
		want int
	}{
		{Reader{}, 0},
		{Reader{B: []byte{}}, 0},
		{Reader{At: 1}, 0},
		{Reader{At: -1}, 0},
		{Reader{B: three}, 24},
		{Reader{B: three, At: 1}, 23},
		{Reader{B: three, At: 8}, 16},
		{Reader{B: three, At: 23}, 1},
		{Reader{B: three, At: 24}, 0},
		{Reader{B: three, At: 25}, 0},
		{Reader{B: three, At: -1}, 0},
		{Reader{B: three, At: -24}, 0},
		{Reader{B: three, At: math.MaxInt}, 0},
		{Reader{B: three, At: math.MinInt}, 0},
		{Reader{B: make([]byte, api.MaxBits), At: 1}, 8*api.MaxBits - 1},
	} {
		if got := Left(c.r); got != c.want {
			t.Errorf("at %d of %d bytes: %d", c.r.At, len(c.r.B), got)
		}
	}
}

// The chapter's example.
func TestExample(t *testing.T) {
	w := mustPut(t, mustPut(t, mustPut(t, Writer{}, 5, 3), 1, 1), 255, 8)
	if !sameWriter(w, Writer{B: []byte{0xfd, 0x0f}, N: 12}) {
		t.Fatalf("%x, %d", w.B, w.N)
	}
	r, a := mustGet(t, Reader{B: w.B}, 3)
	r, b := mustGet(t, r, 1)
	r, c := mustGet(t, r, 8)
	if a != 5 || b != 1 || c != 255 || Left(r) != 4 {
		t.Errorf("%d, %d, %d, %d left", a, b, c, Left(r))
	}
	if x, v, e := Get(r, 5); e != api.ErrMore || v != 0 || !sameReader(x, r) {
		t.Errorf("%d, at %d, error %d", v, x.At, e)
	}
}

type item struct {
	v uint64
	n int
}

// fullRow is numbers of changing widths that fill a writer to the last bit.
func fullRow() []item {
	var row []item
	x := uint64(88172645463325252)
	for left := api.MaxBits; left > 0; {
		x ^= x << 13
		x ^= x >> 7
		x ^= x << 17
		n := min(int(x>>40%33), left)
		row = append(row, item{x % (1 << n), n})
		left -= n
	}
	return row
}

// P1.3: a row that fills a writer is read as it was put.
func TestReadAsPut(t *testing.T) {
	row := fullRow()
	w, want := Writer{}, ""
	for _, it := range row {
		w = mustPut(t, w, it.v, it.n)
		want += numberText(it.v, it.n)
	}
	if w.N != api.MaxBits || bytesText(w.B) != want {
		t.Fatalf("%d bits are written, or others than were put", w.N)
	}
	r := Reader{B: w.B}
	for i, it := range row {
		var v uint64
		if r, v = mustGet(t, r, it.n); v != it.v {
			t.Fatalf("number %d, of %d bits: put %d, read %d", i, it.n, it.v, v)
		}
	}
	if r.At != api.MaxBits || Left(r) != 0 {
		t.Errorf("at %d, %d left", r.At, Left(r))
	}
}

// P1.4: every cut of every width, behind every place of a byte.
func TestPutInTwoParts(t *testing.T) {
	for before := range 9 {
		w := textWriter(pattern(before))
		for n := 0; n <= 32; n++ {
			for low := 0; low <= n; low++ {
				for _, v := range widthValues(n) {
					whole := mustPut(t, w, v, n)
					parts := mustPut(t, mustPut(t, w, v%(1<<low), low), v>>low, n-low)
					if !sameWriter(whole, parts) {
						t.Fatalf("%d in %d and %d bits behind %d: %x, at once %x", v, low, n-low, before, parts.B, whole.B)
					}
				}
			}
		}
	}
}

// P1.5: with each step, and with each error between, a writer is right, and begins with what it was.
func TestStaysRight(t *testing.T) {
	w := Writer{}
	for i, it := range fullRow() {
		old := bytesText(w.B)[:w.N]
		if x, e := Put(w, 1<<it.n, it.n); e != api.ErrArg || !Right(x) || bytesText(x.B)[:x.N] != old {
			t.Fatalf("number %d, a wrong one: error %d, right %v", i, e, Right(x))
		}
		w = mustPut(t, w, it.v, it.n)
		if !Right(w) || w.N != len(old)+it.n || bytesText(w.B)[:len(old)] != old {
			t.Fatalf("number %d: %d bits, right %v", i, w.N, Right(w))
		}
	}
	if x, e := Put(w, 0, 1); e != api.ErrFull || !Right(x) || !sameWriter(x, w) {
		t.Errorf("a full one: error %d, right %v", e, Right(x))
	}
}

// roomy is a copy with spare room behind it, filled, so that a write there is seen; and that whole memory.
func roomy(b []byte) (cut, whole []byte) {
	whole = append(bytes.Clone(b), bytes.Repeat([]byte{0x5a}, 16)...)
	return whole[:len(b)], whole
}

// scribble writes over all memory that an answer has, its spare room too.
func scribble(b []byte) {
	b = b[:cap(b)]
	for i := range b {
		b[i] = 0xc3
	}
}

// R3: Put neither changes nor keeps the bytes of a writer, nor their spare room, whatever it answers.
func TestPutMemory(t *testing.T) {
	for _, old := range []string{"", "1", "1011011", pattern(8), pattern(13), pattern(api.MaxBits - 3), pattern(api.MaxBits)} {
		for _, it := range []item{{0, 0}, {1, 1}, {5, 3}, {0xffffffff, 32}, {8, 3}, {0, -1}, {0, 33}} {
			cut, whole := roomy(textWriter(old).B)
			saved := bytes.Clone(whole)
			x, e := Put(Writer{B: cut, N: len(old)}, it.v, it.n)
			if !bytes.Equal(whole, saved) {
				t.Errorf("%d in %d bits behind %d: what was handed in is changed", it.v, it.n, len(old))
			}
			kept := bytes.Clone(x.B)
			scribble(whole)
			if !bytes.Equal(x.B, kept) {
				t.Errorf("%d in %d bits behind %d (error %d): what was handed in is kept", it.v, it.n, len(old), e)
			}
		}
	}
}

// R3: the memory that Put answers is its own: writing over it reaches neither the argument nor another answer.
func TestPutAnswerMemory(t *testing.T) {
	for _, it := range []item{{0, 0}, {5, 3}, {8, 3}, {0, 33}} {
		cut, whole := roomy(textWriter(pattern(13)).B)
		saved := bytes.Clone(whole)
		w := Writer{B: cut, N: 13}
		x, _ := Put(w, it.v, it.n)
		y, _ := Put(w, it.v, it.n)
		kept := bytes.Clone(y.B)
		scribble(x.B)
		if !bytes.Equal(whole, saved) || !bytes.Equal(y.B, kept) {
			t.Errorf("%d in %d bits: the answer's memory is another's too", it.v, it.n)
		}
	}
}

// R3: two numbers put behind one writer do not meet.
func TestPutBranches(t *testing.T) {
	w := mustPut(t, Writer{}, 5, 3)
	a, b := mustPut(t, w, 0, 13), mustPut(t, w, 0x1fff, 13)
	if !sameWriter(a, Writer{B: []byte{5, 0}, N: 16}) || !sameWriter(b, Writer{B: []byte{0xfd, 0xff}, N: 16}) || !sameWriter(w, Writer{B: []byte{5}, N: 3}) {
		t.Errorf("%x, %x, behind %x", a.B, b.B, w.B)
	}
}

// R3: a writer that isn't right is left as it was, and not kept.
func TestNotRightMemory(t *testing.T) {
	b := []byte{0xff, 0xff}
	w := Writer{B: b, N: 9}
	x, _ := Put(w, 1, 1)
	y, _ := Put(w, 2, 1)
	scribble(x.B)
	scribble(y.B)
	if !bytes.Equal(b, []byte{0xff, 0xff}) {
		t.Errorf("%x", b)
	}
}

// R3: a reader's bytes are kept, and none of the calls changes them.
func TestReaderMemory(t *testing.T) {
	cut, whole := roomy([]byte{0xfd, 0x0f, 0x80})
	saved := bytes.Clone(whole)
	for at := -1; at <= 25; at++ {
		for n := -1; n <= 33; n++ {
			r := Reader{B: cut, At: at}
			x, _, _ := Get(r, n)
			Left(r)
			Right(Writer{B: cut, N: at})
			if len(x.B) != 3 || &x.B[0] != &cut[0] {
				t.Fatalf("%d bits at %d: other bytes", n, at)
			}
		}
	}
	if !bytes.Equal(whole, saved) {
		t.Errorf("changed: %x", whole)
	}
}

// R3: nil and empty are the same, handed in.
func TestNilAndEmpty(t *testing.T) {
	for _, n := range []int{-1, 0, 1, 32, 33} {
		a, ea := Put(Writer{}, 0, n)
		b, eb := Put(Writer{B: []byte{}}, 0, n)
		if ea != eb || !sameWriter(a, b) {
			t.Errorf("Put of %d bits: %x, %d, error %d; %x, %d, error %d", n, a.B, a.N, ea, b.B, b.N, eb)
		}
		for _, at := range []int{-1, 0, 1} {
			x, v, ex := Get(Reader{At: at}, n)
			y, u, ey := Get(Reader{B: []byte{}, At: at}, n)
			if ex != ey || v != u || x.At != y.At || len(x.B) != 0 || len(y.B) != 0 {
				t.Errorf("Get of %d bits at %d: error %d and %d", n, at, ex, ey)
			}
		}
	}
}

// R4: the answer hangs on the bytes, not on their spare room.
func TestSpareRoom(t *testing.T) {
	tight := textWriter(pattern(13))
	cut, _ := roomy(tight.B)
	wide := Writer{B: cut, N: 13}
	if Right(tight) != Right(wide) {
		t.Error("Right")
	}
	for n := 0; n <= 32; n++ {
		if a, b := mustPut(t, tight, 0, n), mustPut(t, wide, 0, n); !sameWriter(a, b) {
			t.Errorf("Put of %d bits: %x and %x", n, a.B, b.B)
		}
		_, u, eu := Get(Reader{B: tight.B}, n)
		_, v, ev := Get(Reader{B: wide.B}, n)
		if u != v || eu != ev {
			t.Errorf("Get of %d bits: %d, error %d; %d, error %d", n, u, eu, v, ev)
		}
	}
}
