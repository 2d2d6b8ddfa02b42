package page

import (
	"bytes"
	"encoding/binary"
	"encoding/hex"
	"fmt"
	"hash/crc32"
	"io"
	"math"
	"slices"
	"strings"
	"testing"

	"psaltery/api"
	"psaltery/sums"
)

// The tests hold the layer against pages whose bytes are written out, and against a model with the library's own sums, readers and texts.

// chance is a row of numbers that do not repeat soon.
type chance uint64

func (x *chance) next() uint64 {
	*x ^= *x << 13
	*x ^= *x >> 7
	*x ^= *x << 17
	return uint64(*x)
}

func (x *chance) below(n int) int {
	return int(x.next() >> 3 % uint64(n))
}

func (x *chance) flip() bool {
	return x.below(2) == 0
}

func (x *chance) anyBytes(n int) []byte {
	b := make([]byte, n)
	for i := range b {
		b[i] = byte(x.next() >> 3)
	}
	return b
}

// anyLength is a part's length that needs so many laces at most, often one next to a multiple of 255.
func (x *chance) anyLength(laces int) int {
	n := 255 * x.below(laces)
	switch x.below(4) {
	case 0:
		return n
	case 1:
		return n + 254
	case 2:
		return n + 1
	}
	return n + x.below(255)
}

// anyPage is a right one.
func (x *chance) anyPage() Page {
	p := Page{Seq: x.below(1 << 32), Granule: x.below(1<<62 + 1), First: x.flip(), Last: x.flip(), Cont: x.flip()}
	if x.flip() {
		p.Seq, p.Granule = p.Seq>>x.below(33), p.Granule>>x.below(63)
	}
	left := x.below(10)
	if x.below(8) == 0 {
		left = x.below(256)
	}
	for left > 0 {
		n := x.anyLength(1 + x.below(left))
		p.Parts = append(p.Parts, x.anyBytes(n))
		left -= n/255 + 1
	}
	if x.below(3) == 0 && len(p.Parts) > 0 {
		at := len(p.Parts) - 1
		p.Parts[at] = x.anyBytes(255 * (len(p.Parts[at])/255 + 1))
		p.More = true
	}
	return p
}

func somePages(x chance, n int) []Page {
	var out []Page
	for range n {
		out = append(out, x.anyPage())
	}
	return out
}

// otherTable is one that is not the published one.
func otherTable() []uint32 {
	x, t := chance(0x9e3779b97f4a7c15), make([]uint32, 256)
	for i := range t {
		t[i] = uint32(x.next() >> 7)
	}
	return t
}

// parts are as many as lengths are given, each of other bytes.
func parts(lengths ...int) [][]byte {
	x, out := chance(0xd1b54a32d192ed03), [][]byte{}
	for _, n := range lengths {
		out = append(out, x.anyBytes(n))
	}
	return out
}

func copied(p Page) Page {
	p.Parts = slices.Clone(p.Parts)
	for i, l := range p.Parts {
		p.Parts[i] = slices.Clone(l)
	}
	return p
}

func same(a, b Page) bool {
	return a.Seq == b.Seq && a.Granule == b.Granule && a.First == b.First && a.Last == b.Last && a.Cont == b.Cont && a.More == b.More && slices.EqualFunc(a.Parts, b.Parts, bytes.Equal)
}

// none tells whether a page is the zero one.
func none(p Page) bool {
	return same(p, Page{})
}

func told(p Page) string {
	lengths := []int{}
	for _, l := range p.Parts {
		lengths = append(lengths, len(l))
	}
	if len(lengths) > 20 {
		lengths = lengths[:20]
	}
	return fmt.Sprintf("seq %d granule %d first %v last %v cont %v more %v %d parts %v", p.Seq, p.Granule, p.First, p.Last, p.Cont, p.More, len(p.Parts), lengths)
}

// modelLaces are the laces of a right page.
func modelLaces(p Page) []byte {
	var out []byte
	for i, l := range p.Parts {
		out = append(out, bytes.Repeat([]byte{255}, len(l)/255)...)
		if i < len(p.Parts)-1 || !p.More {
			out = append(out, byte(len(l)-len(l)/255*255))
		}
	}
	return out
}

// modelSum is the library's for the published table, and made step by step for others.
func modelSum(t []uint32, b []byte) uint32 {
	if slices.Equal(t, crc32.IEEETable[:]) {
		return crc32.ChecksumIEEE(b)
	}
	c := uint32(math.MaxUint32)
	for _, v := range b {
		c = c/256 ^ t[(c^uint32(v))%256]
	}
	return ^c
}

// modelHead is what the bytes ahead of the laces are.
type modelHead struct {
	Begin   [4]byte
	Flags   uint8
	Granule uint64
	Seq     uint32
	Sum     uint32
	Laces   uint8
}

func modelFlags(p Page) uint8 {
	out := 0
	for i, f := range []bool{p.Cont, p.First, p.Last} {
		if f {
			out += []int{1, 2, 4}[i]
		}
	}
	return uint8(out)
}

// bytesOf are the bytes of a head as it is, and those behind it.
func bytesOf(h modelHead, behind ...[]byte) []byte {
	var w bytes.Buffer
	binary.Write(&w, binary.LittleEndian, h)
	return append(w.Bytes(), bytes.Join(behind, nil)...)
}

// laid are the bytes of a head with the sum, and of laces and parts behind it.
func laid(t []uint32, h modelHead, behind []byte) []byte {
	h.Sum = 0
	h.Sum = modelSum(t, bytesOf(h, behind))
	return bytesOf(h, behind)
}

func headOfPage(p Page) modelHead {
	return modelHead{Begin: [4]byte{0x50, 0x53, 0x4c, 0x54}, Flags: modelFlags(p), Granule: uint64(p.Granule), Seq: uint32(p.Seq), Laces: uint8(len(modelLaces(p)))}
}

func behindHead(p Page) []byte {
	return append(modelLaces(p), bytes.Join(p.Parts, nil)...)
}

func modelWrite(t []uint32, p Page) []byte {
	return laid(t, headOfPage(p), behindHead(p))
}

// modelParts cuts bytes by a text of laces, in which a part ends behind each comma.
func modelParts(laces, b []byte) ([][]byte, bool) {
	text := ""
	for _, n := range laces {
		text += strings.Repeat("x", int(n))
		if n != 255 {
			text += ","
		}
	}
	var out [][]byte
	pieces := strings.Split(text, ",")
	more := pieces[len(pieces)-1] != ""
	if !more {
		pieces = pieces[:len(pieces)-1]
	}
	for _, l := range pieces {
		out = append(out, b[:len(l)])
		b = b[len(l):]
	}
	return out, more
}

func modelRead(t []uint32, b []byte) (Page, int, api.Errno) {
	if len(t) != 256 {
		return Page{}, 0, api.ErrArg
	}
	r, h := bytes.NewReader(b), modelHead{}
	if binary.Read(r, binary.LittleEndian, &h) != nil {
		return Page{}, 0, api.ErrMore
	}
	if string(h.Begin[:]) != "PSLT" || h.Flags > 7 || h.Granule > 4611686018427387904 {
		return Page{}, 0, api.ErrForm
	}
	laces := make([]byte, h.Laces)
	if _, e := io.ReadFull(r, laces); e != nil {
		return Page{}, 0, api.ErrMore
	}
	long := 0
	for _, n := range laces {
		long += int(n)
	}
	body := make([]byte, long)
	if _, e := io.ReadFull(r, body); e != nil {
		return Page{}, 0, api.ErrMore
	}
	size, sum := len(b)-r.Len(), h.Sum
	h.Sum = 0
	if modelSum(t, bytesOf(h, laces, body)) != sum {
		return Page{}, 0, api.ErrSum
	}
	p := Page{Seq: int(h.Seq), Granule: int(h.Granule), Cont: h.Flags%2 > 0, First: h.Flags/2%2 > 0, Last: h.Flags/4 > 0}
	p.Parts, p.More = modelParts(laces, body)
	return p, size, api.OK
}

func isRight(t *testing.T, p Page) {
	t.Helper()
	if !Right(p) {
		t.Fatalf("%s: not right", told(p))
	}
	for _, tab := range [][]uint32{sums.Table(), otherTable()} {
		if b, e := Write(tab, p); e != api.OK || !bytes.Equal(b, modelWrite(tab, p)) {
			t.Fatalf("%s: written as %x, error %d", told(p), b, e)
		}
	}
}

func isWrong(t *testing.T, p Page) {
	t.Helper()
	if Right(p) {
		t.Fatalf("%s: right", told(p))
	}
	for _, tab := range wrongAndRightTables() {
		if b, e := Write(tab, p); e != api.ErrArg || len(b) != 0 {
			t.Fatalf("%s: written as %x, error %d", told(p), b, e)
		}
	}
}

// wrongTables have not 256 numbers.
func wrongTables() [][]uint32 {
	whole := sums.Table()
	return [][]uint32{nil, {}, {1}, whole[:255], append(whole, 0), make([]uint32, 512)}
}

func wrongAndRightTables() [][]uint32 {
	return append(wrongTables(), sums.Table())
}

func readIs(t *testing.T, tab []uint32, b []byte, want Page, size int) {
	t.Helper()
	p, n, e := Read(tab, b)
	if e != api.OK || n != size || !same(p, want) {
		t.Fatalf("%x: read as %s, %d bytes, error %d; want %s, %d bytes", cutShort(b), told(p), n, e, told(want), size)
	}
}

func readFails(t *testing.T, tab []uint32, b []byte, want api.Errno) {
	t.Helper()
	if p, n, e := Read(tab, b); e != want || n != 0 || !none(p) {
		t.Fatalf("%x: read as %s, %d bytes, error %d; want error %d", cutShort(b), told(p), n, e, want)
	}
}

func readIsModel(t *testing.T, tab []uint32, b []byte) {
	t.Helper()
	if p, n, e := modelRead(tab, b); e == api.OK {
		readIs(t, tab, b, p, n)
	} else {
		readFails(t, tab, b, e)
	}
}

func cutShort(b []byte) []byte {
	return b[:min(len(b), 60)]
}

// P18.1

func TestRightOfPlainPages(t *testing.T) {
	isRight(t, Page{})
	isRight(t, Page{Parts: [][]byte{}})
	isRight(t, Page{Parts: [][]byte{nil}})
	isRight(t, Page{Parts: [][]byte{{}, nil, {}}})
	isRight(t, Page{Seq: 7, Granule: 320, Parts: parts(12, 0, 254, 255, 256)})
	for f := range 8 {
		p := Page{Cont: f&1 > 0, First: f&2 > 0, Last: f&4 > 0, Parts: parts(3, 255)}
		isRight(t, p)
		p.More = true
		isRight(t, p)
		p.Parts, p.More = nil, false
		isRight(t, p)
		p.More = true
		isWrong(t, p)
	}
}

func TestRightOfSeq(t *testing.T) {
	for _, v := range []int{0, 1, 255, 256, 1<<31 - 1, 1 << 31, 1<<32 - 2, 1<<32 - 1} {
		isRight(t, Page{Seq: v, Granule: 5, Parts: parts(3)})
	}
	for _, v := range []int{-1, -2, -1 << 31, -1 << 32, 1 << 32, 1<<32 + 1, 1 << 33, math.MaxInt, math.MinInt} {
		isWrong(t, Page{Seq: v, Granule: 5, Parts: parts(3)})
	}
}

func TestRightOfGranule(t *testing.T) {
	for _, v := range []int{0, 1, 255, 256, 1 << 31, 1 << 32, 1<<61 + 1, 1<<62 - 1, 1 << 62} {
		isRight(t, Page{Seq: 5, Granule: v, Parts: parts(3)})
	}
	for _, v := range []int{-1, -2, -1 << 32, -1 << 62, 1<<62 + 1, math.MaxInt, math.MinInt, math.MinInt + 1} {
		isWrong(t, Page{Seq: 5, Granule: v, Parts: parts(3)})
	}
}

func TestRightOfLaces(t *testing.T) {
	for _, lengths := range [][]int{
		make([]int, 255), slices.Repeat([]int{254}, 255), {255*254 + 254}, {255 * 254}, {254*255 - 1, 0},
		slices.Repeat([]int{255}, 127), append(slices.Repeat([]int{255}, 127), 1), {100 * 255, 153 * 255}, {1, 253 * 255},
	} {
		isRight(t, Page{Parts: parts(lengths...)})
	}
	for _, lengths := range [][]int{
		make([]int, 256), slices.Repeat([]int{254}, 256), {255 * 255}, {255*255 + 1}, {256 * 255}, {300 * 255}, {1 << 20},
		slices.Repeat([]int{255}, 128), {100 * 255, 154 * 255}, {1, 254 * 255}, {254 * 255, 1}, {1 << 18, 0}, {0, 1 << 18}, make([]int, 1<<16),
	} {
		isWrong(t, Page{Parts: parts(lengths...)})
	}
}

func TestRightOfLacesWithMore(t *testing.T) {
	for _, lengths := range [][]int{
		{255}, {510}, {765}, {0, 255}, {3, 510}, {255, 255}, {254, 255}, {255 * 254}, {255 * 255}, {0, 255 * 254},
		append(make([]int, 254), 255), append(make([]int, 253), 510), {254 * 254, 255},
	} {
		isRight(t, Page{Parts: parts(lengths...), More: true})
	}
	for _, lengths := range [][]int{
		{}, {0}, {1}, {254}, {256}, {509}, {511}, {255, 0}, {255, 1}, {510, 254}, {255 * 256}, {255 * 257}, {0, 255 * 255}, {255 * 253, 510},
		append(make([]int, 255), 255), append(make([]int, 254), 510), {255*255 - 1}, {255*255 + 1},
	} {
		isWrong(t, Page{Parts: parts(lengths...), More: true})
	}
}

// Parts may share memory, and be many: what they come to together is not bounded by what there is.
func TestRightOfManyParts(t *testing.T) {
	long := make([]byte, 1<<24)
	isWrong(t, Page{Parts: slices.Repeat([][]byte{long}, 1<<16)})
	isWrong(t, Page{Parts: slices.Repeat([][]byte{long[:255]}, 1<<16), More: true})
}

func TestWriteOfPlainPages(t *testing.T) {
	x := parts(600)[0]
	for _, c := range []struct {
		p    Page
		want string
	}{
		{Page{}, "50534c54 00 0000000000000000 00000000 ........ 00"},
		{Page{Cont: true}, "50534c54 01 0000000000000000 00000000 ........ 00"},
		{Page{First: true}, "50534c54 02 0000000000000000 00000000 ........ 00"},
		{Page{Last: true}, "50534c54 04 0000000000000000 00000000 ........ 00"},
		{Page{Cont: true, First: true, Last: true}, "50534c54 07 0000000000000000 00000000 ........ 00"},
		{Page{Seq: 0x89abcdef, Granule: 0x123456789abcdef0}, "50534c54 00 f0debc9a78563412 efcdab89 ........ 00"},
		{Page{Seq: 1<<32 - 1, Granule: 1 << 62}, "50534c54 00 0000000000000040 ffffffff ........ 00"},
		{Page{Parts: [][]byte{{7}}}, "50534c54 00 0000000000000000 00000000 ........ 01 01 07"},
		{Page{Parts: [][]byte{{7, 8}, {}, {9}}}, "50534c54 00 0000000000000000 00000000 ........ 03 02 00 01 070809"},
		{Page{Parts: [][]byte{x[:254], {1}}}, "50534c54 00 0000000000000000 00000000 ........ 02 fe 01" + hex.EncodeToString(x[:254]) + "01"},
		{Page{Parts: [][]byte{x[:255]}}, "50534c54 00 0000000000000000 00000000 ........ 02 ff 00" + hex.EncodeToString(x[:255])},
		{Page{Parts: [][]byte{x[:255]}, More: true}, "50534c54 00 0000000000000000 00000000 ........ 01 ff" + hex.EncodeToString(x[:255])},
		{Page{Parts: [][]byte{{5}, x[:510]}, More: true}, "50534c54 00 0000000000000000 00000000 ........ 03 01 ff ff 05" + hex.EncodeToString(x[:510])},
		{Page{Parts: [][]byte{x[:512], {5}}}, "50534c54 00 0000000000000000 00000000 ........ 04 ff ff 02 01" + hex.EncodeToString(x[:512]) + "05"},
	} {
		want := strings.ReplaceAll(c.want, " ", "")
		noughts, _ := hex.DecodeString(strings.ReplaceAll(want, "........", "00000000"))
		for _, tab := range [][]uint32{sums.Table(), otherTable()} {
			s := modelSum(tab, noughts)
			sum := fmt.Sprintf("%02x%02x%02x%02x", s%256, s>>8%256, s>>16%256, s>>24)
			b, e := Write(tab, c.p)
			if e != api.OK || hex.EncodeToString(b) != strings.ReplaceAll(want, "........", sum) {
				t.Errorf("%s: %x, error %d", told(c.p), b, e)
			}
		}
	}
}

// By a table of noughts the sum is reckoned by hand: what begins as ones goes down by 8 bits for each byte.
func TestWriteBySomeTables(t *testing.T) {
	for _, c := range []struct {
		number uint32
		sum    string
	}{{0, "ffffffff"}, {0x01020304, "fafcfdfe"}} {
		b, e := Write(slices.Repeat([]uint32{c.number}, 256), Page{Parts: parts(40)})
		want := c.sum
		if c.number != 0 {
			// All numbers alike: c becomes the exclusive or of the number and c down by 8 bits, which comes to rest.
			v := uint32(0)
			for range 8 {
				v = v/256 ^ c.number
			}
			want = fmt.Sprintf("%08x", ^(v<<24 | v<<8&0xff0000 | v>>8&0xff00 | v>>24))
		}
		if e != api.OK || hex.EncodeToString(b[17:21]) != want {
			t.Errorf("%x: sum %x, error %d; want %s", c.number, b[17:21], e, want)
		}
	}
}

func TestWriteIsModel(t *testing.T) {
	for _, p := range somePages(0x2545f4914f6cdd1d, 600) {
		isRight(t, p)
	}
}

func TestWriteByWrongTables(t *testing.T) {
	for _, tab := range wrongTables() {
		for _, p := range []Page{{}, {Seq: 3, Parts: parts(3, 255), More: true}, {Seq: -1}, {More: true}} {
			if b, e := Write(tab, p); e != api.ErrArg || len(b) != 0 {
				t.Errorf("%d numbers: %x, error %d", len(tab), b, e)
			}
		}
	}
}

// P18.2

func TestReadOfModelPages(t *testing.T) {
	for i, p := range somePages(0x8badf00d5deece66, 600) {
		for _, tab := range [][]uint32{sums.Table(), otherTable()} {
			b := modelWrite(tab, p)
			size := len(b)
			readIs(t, tab, b, p, size)
			readIs(t, tab, append(b, bytes.Repeat([]byte{byte(i)}, 1+i%30)...), p, size)
		}
	}
}

// What stands behind a page is not looked at, be it another page.
func TestReadOfPagesBehindOneAnother(t *testing.T) {
	tab, all := sums.Table(), []byte{}
	pages := somePages(0x3c6ef372fe94f82b, 30)
	for _, p := range pages {
		all = append(all, modelWrite(tab, p)...)
	}
	for _, p := range pages {
		size := len(modelWrite(tab, p))
		readIs(t, tab, all, p, size)
		all = all[size:]
	}
	readFails(t, tab, all, api.ErrMore)
}

func TestReadByWrongTables(t *testing.T) {
	b := modelWrite(sums.Table(), Page{Parts: parts(3)})
	spoilt := slices.Clone(b)
	spoilt[0]++
	for _, tab := range wrongTables() {
		for _, l := range [][]byte{b, nil, {}, b[:21], b[:22], spoilt, append(b[:24:24], 0)} {
			readFails(t, tab, l, api.ErrArg)
		}
	}
}

func TestReadByAnotherTable(t *testing.T) {
	for _, p := range somePages(0x1f83d9abfb41bd6b, 50) {
		readFails(t, otherTable(), modelWrite(sums.Table(), p), api.ErrSum)
		readFails(t, sums.Table(), modelWrite(otherTable(), p), api.ErrSum)
	}
}

func TestReadOfEachBeginning(t *testing.T) {
	tab := sums.Table()
	readFails(t, tab, nil, api.ErrMore)
	readFails(t, tab, []byte{}, api.ErrMore)
	for _, p := range append(somePages(0xa54ff53a5f1d36f1, 20), Page{}, Page{Parts: parts(0)}, Page{Parts: parts(255), More: true}) {
		b := modelWrite(tab, p)
		for n := range b {
			readFails(t, tab, b[:n], api.ErrMore)
			readFails(t, tab, slices.Clone(b[:n]), api.ErrMore)
		}
	}
}

func TestReadOfOtherBeginnings(t *testing.T) {
	tab, p := sums.Table(), Page{Seq: 9, Granule: 16, Parts: parts(5, 0)}
	for at := range 4 {
		for turn := 1; turn < 256; turn++ {
			h := headOfPage(p)
			h.Begin[at] ^= byte(turn)
			readFails(t, tab, laid(tab, h, behindHead(p)), api.ErrForm)
		}
	}
	for _, text := range []string{"pslt", "TLSP", "PSL\x00", "OggS", "\x00\x00\x00\x00", "SPLT"} {
		h := headOfPage(p)
		copy(h.Begin[:], text)
		readFails(t, tab, laid(tab, h, behindHead(p)), api.ErrForm)
	}
}

func TestReadOfAllFlags(t *testing.T) {
	tab, p := sums.Table(), Page{Seq: 9, Granule: 16, Parts: parts(5, 0)}
	for f := range 256 {
		h := headOfPage(p)
		h.Flags = uint8(f)
		b := laid(tab, h, behindHead(p))
		if f > 7 {
			readFails(t, tab, b, api.ErrForm)
			continue
		}
		want := copied(p)
		want.Cont, want.First, want.Last = f%2 == 1, f/2%2 == 1, f/4 == 1
		readIs(t, tab, b, want, len(b))
	}
}

func TestReadOfGranules(t *testing.T) {
	tab, p := sums.Table(), Page{Seq: 9, Parts: parts(5, 0)}
	for _, v := range []uint64{0, 1, 1 << 32, 1<<62 - 1, 1 << 62} {
		h := headOfPage(p)
		h.Granule = v
		b, want := laid(tab, h, behindHead(p)), copied(p)
		want.Granule = int(v)
		readIs(t, tab, b, want, len(b))
	}
	for _, v := range []uint64{1<<62 + 1, 1<<62 + 1<<56, 1<<62 + 1<<61, 1<<63 - 1, 1 << 63, 1<<63 + 1, 1<<63 + 1<<62, math.MaxUint64} {
		h := headOfPage(p)
		h.Granule = v
		readFails(t, tab, laid(tab, h, behindHead(p)), api.ErrForm)
	}
}

func TestReadOfSeqs(t *testing.T) {
	tab, p := sums.Table(), Page{Granule: 9, Parts: parts(5, 0)}
	for _, v := range []uint32{0, 1, 1<<31 - 1, 1 << 31, math.MaxUint32} {
		h := headOfPage(p)
		h.Seq = v
		b, want := laid(tab, h, behindHead(p)), copied(p)
		want.Seq = int(v)
		readIs(t, tab, b, want, len(b))
	}
}

func TestReadOfLaces(t *testing.T) {
	tab, x := sums.Table(), parts(255 * 255)[0]
	for _, c := range []struct {
		laces   []byte
		lengths []int
		more    bool
	}{
		{nil, nil, false},
		{[]byte{0}, []int{0}, false},
		{[]byte{0, 0, 0}, []int{0, 0, 0}, false},
		{[]byte{254}, []int{254}, false},
		{[]byte{255}, []int{255}, true},
		{[]byte{255, 0}, []int{255}, false},
		{[]byte{0, 255}, []int{0, 255}, true},
		{[]byte{255, 255}, []int{510}, true},
		{[]byte{255, 255, 0}, []int{510}, false},
		{[]byte{255, 255, 1, 255}, []int{511, 255}, true},
		{[]byte{255, 0, 0, 255, 254, 3}, []int{255, 0, 509, 3}, false},
		{make([]byte, 255), make([]int, 255), false},
		{bytes.Repeat([]byte{255}, 255), []int{255 * 255}, true},
		{append(bytes.Repeat([]byte{255}, 254), 254), []int{255*254 + 254}, false},
	} {
		want, at := Page{More: c.more}, 0
		for _, n := range c.lengths {
			want.Parts = append(want.Parts, x[at:at+n])
			at += n
		}
		h := modelHead{Begin: [4]byte{80, 83, 76, 84}, Laces: uint8(len(c.laces))}
		b := laid(tab, h, append(slices.Clone(c.laces), x[:at]...))
		readIs(t, tab, b, want, 22+len(c.laces)+at)
		readIs(t, tab, append(b, 1, 2, 3), want, 22+len(c.laces)+at)
		isRight(t, want)
		if len(c.laces) > 0 {
			readFails(t, tab, b[:len(b)-1], api.ErrMore)
		}
	}
}

func TestReadOfOtherSums(t *testing.T) {
	tab := sums.Table()
	for _, p := range append(somePages(0x510e527fade682d1, 20), Page{}) {
		b := modelWrite(tab, p)
		for k := 8 * 17; k < 8*21; k++ {
			b[k/8] ^= 1 << (k % 8)
			readFails(t, tab, b, api.ErrSum)
			b[k/8] ^= 1 << (k % 8)
		}
		slices.Reverse(b[17:21])
		readIsModel(t, tab, b)
		for _, sum := range [][]byte{{0, 0, 0, 0}, {255, 255, 255, 255}} {
			copy(b[17:21], sum)
			readFails(t, tab, b, api.ErrSum)
		}
	}
}

// The sum is of the page with its own bytes 0, not of the page as it stands, nor without them.
func TestReadOfSumsOfOtherBytes(t *testing.T) {
	tab, p := sums.Table(), Page{Seq: 4, Parts: parts(30)}
	b := modelWrite(tab, p)
	without := append(slices.Clone(b[:17]), b[21:]...)
	behind := b[21:]
	for _, l := range [][]byte{without, behind, b, b[22:], b[:22]} {
		c := slices.Clone(b)
		binary.LittleEndian.PutUint32(c[17:21], crc32.ChecksumIEEE(l))
		readFails(t, tab, c, api.ErrSum)
	}
}

// Of several errors it is told which comes first.
func TestReadTellsWhatComesFirst(t *testing.T) {
	tab, p := sums.Table(), Page{Seq: 9, Granule: 16, Parts: parts(5, 300)}
	b := modelWrite(tab, p)
	spoil := func(at int, v byte) []byte {
		c := slices.Clone(b)
		c[at] = v
		return c
	}
	for _, c := range [][]byte{spoil(0, 1), spoil(3, 1), spoil(4, 8), spoil(12, 0x41), spoil(12, 0x80)} {
		for n := range len(c) + 1 {
			want := api.ErrMore
			if n >= 22 {
				want = api.ErrForm
			}
			readFails(t, tab, c[:n], want)
		}
		c[17]++
		readFails(t, tab, c, api.ErrForm)
		c[21] = 255
		readFails(t, tab, c, api.ErrForm)
	}
	for _, c := range [][]byte{spoil(17, b[17]+1), spoil(len(b)-1, b[len(b)-1]+1), spoil(13, 10)} {
		for n := range c {
			readFails(t, tab, c[:n], api.ErrMore)
		}
		readFails(t, tab, c, api.ErrSum)
	}
	// The laces need more than there is, and the sum is another one.
	readFails(t, tab, spoil(21, 255), api.ErrMore)
	readFails(t, tab, spoil(22, 6), api.ErrMore)
}

func TestReadOfEachBitTurned(t *testing.T) {
	for _, tab := range [][]uint32{sums.Table(), otherTable()} {
		for _, p := range somePages(0x165667b19e3779f9, 12) {
			b := append(modelWrite(tab, p), 4, 5, 6)
			for k := range 8 * min(len(b), 150) {
				b[k/8] ^= 1 << (k % 8)
				readIsModel(t, tab, b)
				b[k/8] ^= 1 << (k % 8)
			}
		}
	}
}

func TestReadOfAnyBytes(t *testing.T) {
	x, tab := chance(0x85ebca77c2b2ae63), sums.Table()
	for range 3000 {
		b := x.anyBytes(x.below(60))
		readIsModel(t, tab, b)
		// Such as begin like a page, have few laces, and the sum that they need.
		h := modelHead{Begin: [4]byte{80, 83, 76, 84}, Flags: uint8(x.below(10)), Granule: x.next() >> x.below(4), Seq: uint32(x.next()), Laces: uint8(x.below(4))}
		readIsModel(t, tab, laid(tab, h, x.anyBytes(x.below(900))))
		behind := x.anyBytes(int(h.Laces))
		for _, n := range slices.Clone(behind) {
			behind = append(behind, x.anyBytes(int(n))...)
		}
		readIsModel(t, tab, laid(tab, h, behind))
	}
}

// P18.3

func joinIs(t *testing.T, l []Page, want ...[]byte) {
	t.Helper()
	if out, e := Join(l); e != api.OK || !slices.EqualFunc(out, want, bytes.Equal) {
		t.Fatalf("%s: %d packets %.40x, error %d", toldAll(l), len(out), out, e)
	}
}

func joinFails(t *testing.T, l []Page, want api.Errno) {
	t.Helper()
	if out, e := Join(l); e != want || len(out) != 0 {
		t.Fatalf("%s: %d packets, error %d; want error %d", toldAll(l), len(out), e, want)
	}
}

func toldAll(l []Page) string {
	out := ""
	for _, p := range l {
		out += "[" + told(p) + "]"
	}
	return out
}

func glued(l ...[]byte) []byte {
	return bytes.Join(l, nil)
}

func TestJoinOfPlainPages(t *testing.T) {
	a, b, c, long := []byte{1, 2}, []byte{3}, []byte{4, 5, 6}, parts(255, 510)
	joinIs(t, nil)
	joinIs(t, []Page{})
	joinIs(t, []Page{{}})
	joinIs(t, []Page{{Seq: 6}, {Seq: 7}, {Seq: 8}})
	joinIs(t, []Page{{Parts: [][]byte{nil}}}, nil)
	joinIs(t, []Page{{Parts: [][]byte{{}, a, {}}}}, nil, a, nil)
	joinIs(t, []Page{{Seq: 3, Parts: [][]byte{a, b}}, {Seq: 4}, {Seq: 5, Parts: [][]byte{c}}}, a, b, c)
	joinIs(t, []Page{{Parts: [][]byte{long[0]}}, {Seq: 1, Parts: [][]byte{long[1]}}}, long[0], long[1])
	joinIs(t, []Page{{Seq: 1<<32 - 2, Parts: [][]byte{a}}, {Seq: 1<<32 - 1, Parts: [][]byte{b}}}, a, b)
	joinIs(t, []Page{{Parts: [][]byte{a, long[0]}, More: true}, {Seq: 1, Cont: true, Parts: [][]byte{b, c}}}, a, glued(long[0], b), c)
	joinIs(t, []Page{{Parts: [][]byte{long[0]}, More: true}, {Seq: 1, Cont: true, Parts: [][]byte{{}}}}, long[0])
	joinIs(t, []Page{{Parts: [][]byte{long[0]}, More: true}, {Seq: 1, Cont: true, Parts: [][]byte{nil, nil}}}, long[0], nil)
	joinIs(t, []Page{
		{Parts: [][]byte{b, long[0]}, More: true},
		{Seq: 1, Cont: true, Parts: [][]byte{long[1]}, More: true},
		{Seq: 2, Cont: true, Parts: [][]byte{long[1]}, More: true},
		{Seq: 3, Cont: true, Parts: [][]byte{a, c, long[0]}, More: true},
		{Seq: 4, Cont: true, Parts: [][]byte{c}},
		{Seq: 5, Parts: [][]byte{a}},
	}, b, glued(long[0], long[1], long[1], a), c, glued(long[0], c), a)
}

// First, Last and Granule are not looked at.
func TestJoinOfAllFlags(t *testing.T) {
	for f := range 16 {
		l := []Page{
			{Seq: 9, Granule: 500, First: f&1 > 0, Last: f&2 > 0, Parts: [][]byte{{1}}},
			{Seq: 10, Granule: 3, First: f&4 > 0, Last: f&8 > 0, Parts: [][]byte{{2}}},
		}
		joinIs(t, l, []byte{1}, []byte{2})
	}
}

func TestJoinOfWrongPages(t *testing.T) {
	good := Page{Seq: 1, Parts: parts(3)}
	for _, p := range []Page{
		{Seq: -1}, {Seq: 1 << 32}, {Seq: math.MinInt}, {Seq: 1, Granule: -1}, {Seq: 1, Granule: 1<<62 + 1}, {Seq: 1, More: true},
		{Seq: 1, More: true, Parts: parts(3)}, {Seq: 1, Parts: parts(255 * 255)}, {Seq: 1, Parts: make([][]byte, 256)},
	} {
		joinFails(t, []Page{p}, api.ErrArg)
		p.Cont = true
		joinFails(t, []Page{p}, api.ErrArg)
		joinFails(t, []Page{p, good}, api.ErrArg)
		joinFails(t, []Page{{Seq: 0}, p}, api.ErrArg)
		joinFails(t, []Page{{Seq: 0}, p, good, {Seq: 2}}, api.ErrArg)
		joinFails(t, []Page{{Seq: 5}, p}, api.ErrArg)
	}
	// No page comes behind the last Seq there is.
	joinFails(t, []Page{{Seq: 1<<32 - 1}, {Seq: 1 << 32}}, api.ErrArg)
	joinFails(t, []Page{{Seq: 1<<32 - 1}, {}}, api.ErrState)
}

func TestJoinOfOtherSeqs(t *testing.T) {
	for _, s := range [][]int{{0, 0}, {0, 2}, {1, 0}, {5, 5}, {5, 4}, {5, 7}, {5, 6, 6}, {5, 6, 8}, {5, 6, 5}, {0, 1, 2, 4}, {1<<32 - 1, 0}, {0, 1<<32 - 1}} {
		l := []Page{}
		for _, v := range s {
			l = append(l, Page{Seq: v, Parts: parts(2)})
		}
		joinFails(t, l, api.ErrState)
		joinIs(t, l[:len(l)-1], slices.Repeat(parts(2), len(l)-1)...)
	}
}

func TestJoinOfContAndMore(t *testing.T) {
	long := parts(255)
	for k := range 64 {
		l := []Page{
			{Seq: 0, Cont: k&1 > 0, More: k&2 > 0, Parts: long},
			{Seq: 1, Cont: k&4 > 0, More: k&8 > 0, Parts: long},
			{Seq: 2, Cont: k&16 > 0, More: k&32 > 0, Parts: long},
		}
		bad := l[0].Cont || l[0].More != l[1].Cont || l[1].More != l[2].Cont || l[2].More
		if bad {
			joinFails(t, l, api.ErrState)
			continue
		}
		want, at := [][]byte{}, -1
		for _, p := range l {
			if !p.Cont {
				want, at = append(want, nil), at+1
			}
			want[at] = glued(want[at], long[0])
		}
		joinIs(t, l, want...)
	}
}

func TestJoinOfContWithoutParts(t *testing.T) {
	long := parts(255)
	joinFails(t, []Page{{Cont: true}}, api.ErrState)
	joinFails(t, []Page{{Cont: true, Parts: parts(2)}}, api.ErrState)
	joinFails(t, []Page{{Parts: long, More: true}, {Seq: 1, Cont: true}}, api.ErrState)
	joinFails(t, []Page{{Parts: long, More: true}, {Seq: 1, Cont: true, Parts: [][]byte{}}}, api.ErrState)
	joinFails(t, []Page{{Parts: long, More: true}, {Seq: 1, Cont: true}, {Seq: 2, Parts: parts(1)}}, api.ErrState)
	joinFails(t, []Page{{Parts: long, More: true}, {Seq: 1}, {Seq: 2, Cont: true, Parts: parts(1)}}, api.ErrState)
}

func TestJoinOfMoreAtTheEnd(t *testing.T) {
	long := parts(255)
	joinFails(t, []Page{{Parts: long, More: true}}, api.ErrState)
	joinFails(t, []Page{{Parts: parts(3)}, {Seq: 1, Parts: long, More: true}}, api.ErrState)
	joinFails(t, []Page{{Parts: long, More: true}, {Seq: 1, Cont: true, Parts: long, More: true}}, api.ErrState)
}

// It is told what is wrong with the first page with which something is.
func TestJoinTellsTheFirstWrongPage(t *testing.T) {
	long, wrong := parts(255), Page{Seq: 2, More: true}
	joinFails(t, []Page{{Seq: 0}, {Seq: 5}, wrong}, api.ErrState)
	joinFails(t, []Page{{Seq: 0, Cont: true, Parts: long}, wrong}, api.ErrState)
	joinFails(t, []Page{{Seq: 1, Parts: long, More: true}, wrong}, api.ErrArg)
	joinFails(t, []Page{{Seq: 0}, {Seq: 1, Cont: true, Parts: long}, wrong}, api.ErrState)
	joinFails(t, []Page{{Seq: 0, Parts: long, More: true}, {Seq: 1, Cont: true}, wrong}, api.ErrState)
	joinFails(t, []Page{{Seq: 0, More: true}, {Seq: 5}}, api.ErrArg)
	joinFails(t, []Page{wrong, {Seq: 9, Parts: long, More: true}}, api.ErrArg)
	joinFails(t, []Page{{Seq: 0}, {Seq: 9, Granule: -1}}, api.ErrArg)
	joinFails(t, []Page{{Seq: 0}, {Seq: 1, Granule: -1}, {Seq: 1}}, api.ErrArg)
	joinFails(t, []Page{{Seq: 0}, {Seq: 2, Granule: 1}, {Seq: 3, Granule: -1}}, api.ErrState)
}

// laidOut puts packets into pages that have so many laces at most, cut where a page is full, or by chance.
func laidOut(x *chance, packets [][]byte, seq int) []Page {
	pages, left := []Page{{Seq: seq}}, 1+x.below(255)
	turn := func(more bool) {
		at := &pages[len(pages)-1]
		at.More = more
		seq++
		pages, left = append(pages, Page{Seq: seq, Cont: more}), 1+x.below(255)
	}
	for _, l := range packets {
		if left == 0 || x.below(6) == 0 {
			turn(false)
		}
		for len(l)/255+1 > left {
			at := &pages[len(pages)-1]
			at.Parts = append(at.Parts, l[:255*left])
			l = l[255*left:]
			turn(true)
		}
		at := &pages[len(pages)-1]
		at.Parts, left = append(at.Parts, l), left-len(l)/255-1
	}
	return pages
}

func TestJoinOfLaidOutPackets(t *testing.T) {
	x, parted := chance(0xc2b2ae3d27d4eb4f), 0
	for range 150 {
		packets := [][]byte{}
		for range x.below(12) {
			packets = append(packets, x.anyBytes(x.anyLength(1+x.below(400))))
		}
		pages := laidOut(&x, packets, x.below(1<<32-20000))
		for _, p := range pages {
			isRight(t, p)
			if p.Cont && p.More && len(p.Parts) == 1 {
				parted++
			}
		}
		joinIs(t, pages, packets...)
		allBytesStay(t, pages)
		if len(pages) < 2 {
			continue
		}
		at := 1 + x.below(len(pages)-1)
		if at < len(pages)-1 {
			joinFails(t, slices.Delete(slices.Clone(pages), at, at+1), api.ErrState)
		}
		spoilt := slices.Clone(pages)
		spoilt[at].Seq++
		joinFails(t, spoilt, api.ErrState)
		spoilt = slices.Clone(pages)
		spoilt[at].Cont = !spoilt[at].Cont
		joinFails(t, spoilt, api.ErrState)
	}
	if parted < 20 {
		t.Errorf("only %d pages go on with a packet that goes on", parted)
	}
}

// P18.4

func TestReadOfWrite(t *testing.T) {
	for _, tab := range [][]uint32{sums.Table(), otherTable()} {
		for _, p := range somePages(0x27d4eb2f165667c5, 600) {
			b, e := Write(tab, p)
			if e != api.OK {
				t.Fatalf("%s: error %d", told(p), e)
			}
			readIs(t, tab, b, p, len(b))
		}
	}
}

// What is read is right, and written as it stood.
func TestWriteOfRead(t *testing.T) {
	x, tab := chance(0x5be0cd19137e2179), sums.Table()
	for range 1000 {
		behind := x.anyBytes(x.below(9))
		h := modelHead{Begin: [4]byte{80, 83, 76, 84}, Flags: uint8(x.below(8)), Granule: x.next() >> 2, Seq: uint32(x.next()), Laces: uint8(len(behind))}
		for i, n := range behind[:len(behind):len(behind)] {
			if n > 128 {
				behind[i], n = 255, 255
			}
			behind = append(behind, x.anyBytes(int(n))...)
		}
		b := laid(tab, h, behind)
		p, n, e := Read(tab, b)
		if e != api.OK || n != len(b) || !Right(p) {
			t.Fatalf("%x: %s, %d bytes, error %d", cutShort(b), told(p), n, e)
		}
		if again, e := Write(tab, p); e != api.OK || !bytes.Equal(again, b) {
			t.Fatalf("%s: written otherwise, error %d", told(p), e)
		}
	}
}

// P18.5

// turned are bytes of which the bits from at on are turned where those of mask are 1.
func turned(b []byte, at int, mask uint32) []byte {
	out := slices.Clone(b)
	for k := range 32 {
		if i := at + k; mask>>k&1 == 1 && i < 8*len(out) {
			out[i/8] ^= 1 << (i % 8)
		}
	}
	return out
}

func TestTurnedBitsAreFound(t *testing.T) {
	x, tab := chance(0x6a09e667f3bcc909), sums.Table()
	for _, p := range []Page{{Parts: parts(1)}, {Seq: 4, Parts: parts(4)}, {Seq: 9, Granule: 32, Cont: true, Parts: parts(20, 0, 9)}, {First: true, Parts: parts(255), More: true}, {Last: true, Parts: parts(700, 3)}} {
		b := modelWrite(tab, p)
		begin := 8 * (22 + len(modelLaces(p)))
		for at := begin; at < 8*len(b); at++ {
			for _, mask := range []uint32{1, 3, 1<<31 + 1, 0xffffffff, 0xedb88321, 0x82f63b79, uint32(x.next())*2 + 1, uint32(x.next())*2 + 1} {
				readFails(t, tab, turned(b, at, mask), api.ErrSum)
			}
		}
	}
}

// All ways to turn bits of a part of two bytes are looked at.
func TestAllTurnedBitsOfAShortPart(t *testing.T) {
	tab := sums.Table()
	b := modelWrite(tab, Page{Seq: 77, Parts: [][]byte{{}, {0x35, 0xc6}}})
	begin := 8 * (22 + 2)
	for mask := uint32(1); mask < 1<<16; mask++ {
		readFails(t, tab, turned(b, begin, mask), api.ErrSum)
	}
}

// P18.6

func allBytesStay(t *testing.T, l []Page) {
	t.Helper()
	out, e := Join(l)
	want := []byte{}
	for _, p := range l {
		want = append(want, glued(p.Parts...)...)
	}
	if e != api.OK || !bytes.Equal(glued(out...), want) {
		t.Fatalf("%s: error %d, or other bytes", toldAll(l), e)
	}
}

func TestJoinOfReadPages(t *testing.T) {
	x, tab := chance(0xbb67ae8584caa73b), sums.Table()
	for range 60 {
		packets := [][]byte{}
		for range 1 + x.below(6) {
			packets = append(packets, x.anyBytes(x.anyLength(1+x.below(300))))
		}
		stream, read := []byte{}, []Page{}
		for _, p := range laidOut(&x, packets, x.below(1000)) {
			b, _ := Write(tab, p)
			stream = append(stream, b...)
		}
		for len(stream) > 0 {
			p, n, e := Read(tab, stream)
			if e != api.OK {
				t.Fatalf("error %d", e)
			}
			read, stream = append(read, p), stream[n:]
		}
		joinIs(t, read, packets...)
		allBytesStay(t, read)
	}
}

// R3: what is handed in stays as it is, its spare room too, and what is answered is new memory, of lists that share none. R4: what was done with an answer is not to be seen in the next one.

func spoilAll(lists ...[]byte) {
	for _, l := range lists {
		l = l[:cap(l)]
		for i := range l {
			l[i] ^= 0x5a
		}
	}
}

// spoilParts writes over lists, and their spare room, the outer one too.
func spoilParts(l [][]byte) {
	l = l[:cap(l)]
	spoilAll(l...)
	for i := range l {
		l[i] = []byte{77}
	}
}

// roomy is a list with spare room, which is its own.
func roomy[T any](l []T, spare ...T) []T {
	return append(slices.Clone(l), spare...)[:len(l)]
}

// roomyPage is a page whose lists have spare room.
func roomyPage(p Page) Page {
	p.Parts = roomy(p.Parts, []byte{6})
	for i := range p.Parts {
		p.Parts[i] = roomy(p.Parts[i], 8, 9)
	}
	return p
}

func pageStays(t *testing.T, p, was Page) {
	t.Helper()
	if !same(p, was) {
		t.Fatalf("%s: changed to %s", told(was), told(p))
	}
	for _, l := range p.Parts {
		if n := len(l); !bytes.Equal(l[n:n+2], []byte{8, 9}) {
			t.Fatalf("%s: the spare room of a part is changed", told(was))
		}
	}
	if n := len(p.Parts); !bytes.Equal(p.Parts[:n+1][n], []byte{6}) {
		t.Fatalf("%s: the spare room of the parts is changed", told(was))
	}
}

func TestArgumentsStay(t *testing.T) {
	for _, was := range somePages(0x3c6ef372a54ff53a, 300) {
		tab, p, b := roomy(sums.Table(), 3, 4), roomyPage(was), modelWrite(sums.Table(), was)
		room := roomy(b, 9, 9, 9)
		Right(p)
		written, _ := Write(tab, p)
		read, _, _ := Read(tab, room)
		spoilAll(written)
		spoilParts(read.Parts)
		pageStays(t, p, was)
		if n := len(b); !bytes.Equal(room, b) || !bytes.Equal(room[n:n+3], []byte{9, 9, 9}) {
			t.Fatalf("%s: the bytes are changed", told(was))
		}
		if !slices.Equal(tab, sums.Table()) || !slices.Equal(tab[256:258], []uint32{3, 4}) {
			t.Fatalf("%s: the table is changed", told(was))
		}
	}
}

func TestPagesOfJoinStay(t *testing.T) {
	x := chance(0x510e527f9b05688c)
	for range 100 {
		was := laidOut(&x, [][]byte{x.anyBytes(3), x.anyBytes(x.below(3000)), x.anyBytes(x.below(900)), {}}, 5)
		l := []Page{}
		for _, p := range was {
			l = append(l, roomyPage(p))
		}
		l = roomy(l, Page{Seq: 99})
		out, e := Join(l)
		if e != api.OK {
			t.Fatalf("%s: error %d", toldAll(was), e)
		}
		spoilParts(out)
		for i, p := range l {
			pageStays(t, p, was[i])
		}
		if n := len(l); !same(l[:n+1][n], Page{Seq: 99}) {
			t.Fatalf("%s: the spare room of the pages is changed", toldAll(was))
		}
	}
}

// What is answered does not follow what its argument becomes.
func TestArgumentsAreNotKept(t *testing.T) {
	for _, was := range somePages(0x1f83d9ab5be0cd19, 300) {
		tab, p, want := sums.Table(), copied(was), modelWrite(sums.Table(), was)
		b := slices.Clone(want)
		written, _ := Write(tab, p)
		read, _, _ := Read(tab, b)
		joined, e := Join([]Page{{Seq: was.Seq, Parts: p.Parts}})
		spoilParts(p.Parts)
		spoilAll(b)
		clear(tab)
		if !bytes.Equal(written, want) || !same(read, was) {
			t.Fatalf("%s: an answer follows its argument", told(was))
		}
		if e == api.OK && !slices.EqualFunc(joined, was.Parts, bytes.Equal) {
			t.Fatalf("%s: the packets follow the pages", told(was))
		}
	}
}

// ownLists spoils lists one by one, their spare room too: none but that one may be changed.
func ownLists(t *testing.T, l [][]byte) {
	t.Helper()
	for i := range l {
		want := slices.Clone(l)
		for k := range want {
			want[k] = slices.Clone(l[k])
		}
		spoilAll(l[i])
		want[i] = l[i]
		if !slices.EqualFunc(l, want, bytes.Equal) {
			t.Fatalf("the list at %d shares memory with another one", i)
		}
	}
}

func TestAnswersAreNewMemory(t *testing.T) {
	for _, p := range somePages(0xcbbb9d5d629a292a, 200) {
		tab, want := sums.Table(), modelWrite(sums.Table(), p)
		written, _ := Write(tab, p)
		other, _ := Write(tab, p)
		spoilAll(written)
		read, _, _ := Read(tab, want)
		again, _, _ := Read(tab, want)
		ownLists(t, read.Parts)
		if !bytes.Equal(other, want) || !same(again, p) {
			t.Fatalf("%s: two answers share memory", told(p))
		}
		isRight(t, p)
		readIs(t, tab, want, p, len(want))
	}
}

func TestJoinedListsAreTheirOwn(t *testing.T) {
	x := chance(0x9159015a152fecd8)
	for range 100 {
		packets := [][]byte{x.anyBytes(3), x.anyBytes(x.below(3000)), {}, x.anyBytes(x.below(900)), x.anyBytes(255)}
		pages := laidOut(&x, packets, 5)
		out, _ := Join(pages)
		ownLists(t, out)
		joinIs(t, pages, packets...)
	}
}
