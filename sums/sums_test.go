package sums

import (
	"bytes"
	"hash/crc32"
	"math"
	"slices"
	"testing"

	"psaltery/api"
)

// The tests hold the layer against a model that goes by division and remainder, bit by bit, and against the library's own CRC-32, which share no shift with it.

// modelTable is the table of the chapter's words.
func modelTable() []uint32 {
	var t []uint32
	for i := range 256 {
		v := uint32(i)
		for range 8 {
			odd := v%2 != 0
			v /= 2
			if odd {
				v ^= 0xedb88320
			}
		}
		t = append(t, v)
	}
	return t
}

// modelAdd is what becomes of c by bytes, by any table.
func modelAdd(t []uint32, c uint32, b []byte) uint32 {
	for _, x := range b {
		c = (c / 256) ^ t[(c%256)^uint32(x)]
	}
	return c
}

// chance is a row of numbers that do not repeat soon.
type chance uint32

func (x *chance) next() uint32 {
	*x ^= *x << 13
	*x ^= *x >> 17
	*x ^= *x << 5
	return uint32(*x)
}

func (x *chance) bytes(n int) []byte {
	b := make([]byte, n)
	for i := range b {
		b[i] = byte(x.next() >> 11)
	}
	return b
}

// oddTable is a table of 256 numbers that is not the published one.
func (x *chance) oddTable() []uint32 {
	t := make([]uint32, 256)
	for i := range t {
		t[i] = x.next()
	}
	return t
}

// edgeTables are tables that any promise on "a table t" has to hold of.
func edgeTables() map[string][]uint32 {
	x := chance(0x1b873593)
	ones := slices.Repeat([]uint32{math.MaxUint32}, 256)
	turned := modelTable()
	slices.Reverse(turned)
	return map[string][]uint32{"published": modelTable(), "zeros": make([]uint32, 256), "ones": ones, "turned": turned, "odd": x.oddTable()}
}

func mustSum(t *testing.T, table []uint32, b []byte) uint32 {
	t.Helper()
	s, e := Sum(table, b)
	if e != api.OK {
		t.Fatalf("Sum of %d bytes: error %d", len(b), e)
	}
	return s
}

func mustAdd(t *testing.T, table []uint32, c uint32, b []byte) uint32 {
	t.Helper()
	s, e := Add(table, c, b)
	if e != api.OK {
		t.Fatalf("Add of %d bytes to %x: error %d", len(b), c, e)
	}
	return s
}

// P2.1: Table.

func TestTable(t *testing.T) {
	got := Table()
	if len(got) != 256 {
		t.Fatalf("Table has %d numbers", len(got))
	}
	for i, want := range modelTable() {
		if got[i] != want || got[i] != crc32.IEEETable[i] {
			t.Errorf("Table at %d: %08x, want %08x", i, got[i], want)
		}
	}
}

func TestTableExamples(t *testing.T) {
	got := Table()
	for i, want := range map[int]uint32{0: 0, 1: 0x77073096, 128: 0xedb88320, 255: 0x2d02ef8d} {
		if got[i] != want {
			t.Errorf("Table at %d: %08x, want %08x", i, got[i], want)
		}
	}
}

// R3: a table that is handed out is the caller's own, spare room too.
func TestTableMemory(t *testing.T) {
	first, second := Table(), Table()
	whole := first[:cap(first)]
	for i := range whole {
		whole[i] = ^whole[i]
	}
	if !slices.Equal(second, modelTable()) {
		t.Error("a table that was handed out already has changed with another")
	}
	if !slices.Equal(Table(), modelTable()) {
		t.Error("Table answers another table than before")
	}
	if s := mustSum(t, second, []byte("123456789")); s != 0xcbf43926 {
		t.Errorf("Sum by an untouched table: %08x", s)
	}
}

// P2.1: Sum.

func TestSumExamples(t *testing.T) {
	table := Table()
	for _, c := range []struct {
		text string
		want uint32
	}{
		{"123456789", 0xcbf43926},
		{"", 0},
		{"\x00", 0xd202ef8d},
		{"\xff", 0xff000000},
		{"\x00\x00\x00\x00", 0x2144df1c},
		{"\xff\xff\xff\xff", 0xffffffff},
		{"a", 0xe8b7be43},
		{"The quick brown fox jumps over the lazy dog", 0x414fa339},
	} {
		if s := mustSum(t, table, []byte(c.text)); s != c.want {
			t.Errorf("Sum of %q: %08x, want %08x", c.text, s, c.want)
		}
	}
}

func TestSumNothing(t *testing.T) {
	for name, table := range edgeTables() {
		for _, b := range [][]byte{nil, {}} {
			if s := mustSum(t, table, b); s != 0 {
				t.Errorf("%s: Sum of nothing: %08x", name, s)
			}
		}
	}
}

func TestSumEveryByte(t *testing.T) {
	for name, table := range edgeTables() {
		for x := range 256 {
			for _, b := range [][]byte{{byte(x)}, {0, byte(x)}, {byte(x), 0xa5}} {
				want := math.MaxUint32 - modelAdd(table, math.MaxUint32, b)
				if s := mustSum(t, table, b); s != want {
					t.Fatalf("%s: Sum of %x: %08x, want %08x", name, b, s, want)
				}
			}
		}
	}
}

func TestSumPublished(t *testing.T) {
	x, table := chance(0x9e3779b9), Table()
	for n := range 600 {
		b := x.bytes(n)
		if s := mustSum(t, table, b); s != crc32.ChecksumIEEE(b) {
			t.Fatalf("Sum of %d bytes: %08x, want %08x", n, s, crc32.ChecksumIEEE(b))
		}
	}
	long := x.bytes(1 << 20)
	if s := mustSum(t, table, long); s != crc32.ChecksumIEEE(long) {
		t.Errorf("Sum of %d bytes: %08x, want %08x", len(long), s, crc32.ChecksumIEEE(long))
	}
}

// The sum goes by the table that is handed in, whichever it is.
func TestSumByAnyTable(t *testing.T) {
	x := chance(0x7f4a7c15)
	for name, table := range edgeTables() {
		for n := range 100 {
			b := x.bytes(n)
			want := math.MaxUint32 - modelAdd(table, math.MaxUint32, b)
			if s := mustSum(t, table, b); s != want {
				t.Fatalf("%s: Sum of %x: %08x, want %08x", name, b, s, want)
			}
		}
	}
}

// Every number of a table counts, and no other place is read for it.
func TestSumReadsItsPlace(t *testing.T) {
	for at := range 256 {
		table := make([]uint32, 256)
		table[at] = 0x01020304
		for x := range 256 {
			want := uint32(0x00ffffff)
			if 0xff^x == at {
				want ^= 0x01020304
			}
			if s := mustSum(t, table, []byte{byte(x)}); s != ^want {
				t.Fatalf("only place %d filled: Sum of %02x: %08x, want %08x", at, x, s, ^want)
			}
		}
	}
}

// wrongTables have not 256 numbers, some with room for them.
func wrongTables() map[string][]uint32 {
	x := chance(0x85ebca6b)
	many := append(x.oddTable(), x.oddTable()...)
	return map[string][]uint32{
		"nil":              nil,
		"empty":            {},
		"empty, with room": many[:0],
		"one":              many[:1],
		"255":              many[:255:255],
		"255, with room":   many[:255],
		"257":              many[:257],
		"512":              many,
		"published, less":  modelTable()[:255],
		"published, more":  append(modelTable(), 0),
	}
}

func TestWrongTables(t *testing.T) {
	for name, table := range wrongTables() {
		for _, b := range [][]byte{nil, {}, {0}, []byte("123456789")} {
			if s, e := Sum(table, b); s != 0 || e != api.ErrArg {
				t.Errorf("%s: Sum of %q: %08x, error %d", name, b, s, e)
			}
			for _, c := range []uint32{0, 1, 0x80000000, math.MaxUint32} {
				if s, e := Add(table, c, b); s != 0 || e != api.ErrArg {
					t.Errorf("%s: Add of %q to %x: %08x, error %d", name, b, c, s, e)
				}
			}
		}
	}
}

// Room behind a table of 256 numbers changes nothing.
func TestTableWithRoom(t *testing.T) {
	many := append(modelTable(), modelTable()...)
	for _, table := range [][]uint32{many[:256], many[256:], many[:256:256]} {
		if s := mustSum(t, table, []byte("123456789")); s != 0xcbf43926 {
			t.Errorf("Sum by a table of room %d: %08x", cap(table), s)
		}
	}
}

// P2.2: Begin, Add, End.

// edgeStates are numbers that may have become of bytes.
var edgeStates = []uint32{0, 1, 2, 0x7f, 0x80, 0xff, 0x100, 0xffff, 0x10000, 0x7fffffff, 0x80000000, 0xedb88320, 0xdeadbeef, 0xffffff00, 0xfffffffe, math.MaxUint32}

func TestBegin(t *testing.T) {
	if c := Begin(); c != 4294967295 {
		t.Errorf("Begin: %d", c)
	}
}

func TestEnd(t *testing.T) {
	x := chance(0xc2b2ae35)
	states := slices.Clone(edgeStates)
	for range 1000 {
		states = append(states, x.next())
	}
	for _, c := range states {
		if s := End(c); s != 4294967295-c {
			t.Errorf("End of %08x: %08x, want %08x", c, s, 4294967295-c)
		}
	}
}

func TestAdd(t *testing.T) {
	x := chance(0x27d4eb2f)
	for name, table := range edgeTables() {
		for _, c := range edgeStates {
			for n := range 20 {
				b := x.bytes(n)
				if s, want := mustAdd(t, table, c, b), modelAdd(table, c, b); s != want {
					t.Fatalf("%s: Add of %x to %08x: %08x, want %08x", name, b, c, s, want)
				}
			}
		}
	}
}

func TestAddNothing(t *testing.T) {
	for name, table := range edgeTables() {
		for _, c := range edgeStates {
			for _, b := range [][]byte{nil, {}} {
				if s := mustAdd(t, table, c, b); s != c {
					t.Errorf("%s: Add of nothing to %08x: %08x", name, c, s)
				}
			}
		}
	}
}

func TestAddEveryLowByte(t *testing.T) {
	row := chance(0x165667b1)
	odd := row.oddTable()
	for low := range 256 {
		for x := range 256 {
			c := 0x5a3c9600 | uint32(low)
			want := uint32(0x005a3c96) ^ odd[low^x]
			if s := mustAdd(t, odd, c, []byte{byte(x)}); s != want {
				t.Fatalf("Add of %02x to %08x: %08x, want %08x", x, c, s, want)
			}
		}
	}
}

// P2.3: parts.

func TestTwoParts(t *testing.T) {
	x := chance(0x9e3779b9)
	b := x.bytes(300)
	for name, table := range edgeTables() {
		want := mustSum(t, table, b)
		for cut := range len(b) + 1 {
			c := mustAdd(t, table, Begin(), b[:cut])
			if s := End(mustAdd(t, table, c, b[cut:])); s != want {
				t.Fatalf("%s: cut at %d: %08x, want %08x", name, cut, s, want)
			}
		}
	}
}

func TestManyParts(t *testing.T) {
	x := chance(0x2545f491)
	b := x.bytes(500)
	for name, table := range edgeTables() {
		want := mustSum(t, table, b)
		for most := range 40 {
			c, rest := Begin(), b
			for len(rest) > 0 {
				n := min(len(rest), int(x.next()>>8)%(most+2))
				c = mustAdd(t, table, c, rest[:n])
				rest = rest[n:]
			}
			if s := End(c); s != want {
				t.Fatalf("%s: parts of up to %d bytes: %08x, want %08x", name, most+1, s, want)
			}
		}
	}
}

func TestNoParts(t *testing.T) {
	if s := End(Begin()); s != mustSum(t, Table(), nil) {
		t.Errorf("End of Begin: %08x", s)
	}
}

// P2.4: texts that differ within 32 bits.

// flipped is b with the bits of mask turned over, its bit 0 at the bit numbered at; bits are numbered as chapter 1 does, the lowest of a byte first. False: they do not fit in.
func flipped(b []byte, at int, mask uint64) ([]byte, bool) {
	out := bytes.Clone(b)
	for i := range 64 {
		if mask>>i&1 == 0 {
			continue
		}
		n := at + i
		if n >= 8*len(out) {
			return nil, false
		}
		out[n/8] ^= 1 << (n % 8)
	}
	return out, true
}

// wantUnlike asks unlike sums wherever the difference is laid on b.
func wantUnlike(t *testing.T, table []uint32, b []byte, mask uint64) {
	t.Helper()
	s := mustSum(t, table, b)
	for at := range 8 * len(b) {
		if other, fits := flipped(b, at, mask); fits && mustSum(t, table, other) == s {
			t.Fatalf("%x: the bits %x at %d turned over: both have the sum %08x", b, mask, at, s)
		}
	}
}

func TestOneAndTwoBits(t *testing.T) {
	x, table := chance(0xdeadbeef), Table()
	for _, b := range [][]byte{{0}, {0xff}, {0, 0, 0, 0}, x.bytes(5), x.bytes(24), make([]byte, 24)} {
		wantUnlike(t, table, b, 1)
		for gap := 1; gap < 32; gap++ {
			wantUnlike(t, table, b, 1|1<<gap)
		}
	}
}

func TestWholeShortRuns(t *testing.T) {
	x, table := chance(0xfeedface), Table()
	b := x.bytes(9)
	for mask := uint64(1); mask < 1<<10; mask += 2 {
		wantUnlike(t, table, b, mask)
	}
}

func TestRunsOfUpTo32Bits(t *testing.T) {
	x, table := chance(0x0badcafe), Table()
	masks := []uint64{math.MaxUint32, 0x80000001, 0xedb88320, 0xdb710641, 0x04c11db7, 0x82608edb, 0x55555555, 0xaaaaaaaa}
	for range 300 {
		masks = append(masks, uint64(x.next()|1))
	}
	for _, mask := range masks {
		wantUnlike(t, table, x.bytes(4), mask)
		wantUnlike(t, table, x.bytes(12), mask)
	}
}

// Four bytes have a sum of their own each: here, all that differ from one in two bytes.
func TestFourBytesUnlike(t *testing.T) {
	table := Table()
	for _, pair := range [][2]int{{0, 1}, {0, 3}, {2, 3}} {
		seen := map[uint32]int{}
		for v := range 1 << 16 {
			b := []byte("word")
			b[pair[0]], b[pair[1]] = byte(v), byte(v/256)
			s := mustSum(t, table, b)
			if other, there := seen[s]; there {
				t.Fatalf("bytes at %v: %04x and %04x both have the sum %08x", pair, v, other, s)
			}
			seen[s] = v
		}
	}
}

// One bit more, and texts with like sums are to be found, as for every sum of 32 bits: the tests above go as far as they can.
func TestRunOf33BitsMayBeLike(t *testing.T) {
	table, b := Table(), []byte("123456789")
	other, _ := flipped(b, 5, 1|uint64(0xedb88320)<<1)
	if mustSum(t, table, other) != mustSum(t, table, b) {
		t.Error("the sum is not the one by the published polynomial")
	}
}

// R3, R4: what is handed in is neither changed nor kept.
func TestArgumentsStay(t *testing.T) {
	x := chance(0x51ed270b)
	table, text := append(x.oddTable(), x.oddTable()...), x.bytes(100)
	tableWas, textWas := slices.Clone(table), slices.Clone(text)
	sum := mustSum(t, table[:256], text[:50])
	added := mustAdd(t, table[:256], 7, text[:50])
	if !slices.Equal(table, tableWas) || !bytes.Equal(text, textWas) {
		t.Fatal("an argument, or the room behind it, has changed")
	}
	clear(table)
	clear(text)
	if s := mustSum(t, tableWas[:256], textWas[:50]); s != sum {
		t.Errorf("Sum: %08x, and then %08x", sum, s)
	}
	if s := mustAdd(t, tableWas[:256], 7, textWas[:50]); s != added {
		t.Errorf("Add: %08x, and then %08x", added, s)
	}
	if s := mustSum(t, table[:256], text[:50]); s != math.MaxUint32-modelAdd(table, math.MaxUint32, text[:50]) {
		t.Errorf("Sum by a table that was cleared: %08x", s)
	}
}
