package vpack

import (
	"bytes"
	"encoding/hex"
	"fmt"
	"math"
	"slices"
	"strings"
	"testing"

	"psaltery/api"
	"psaltery/vhead"
)

// The tests hold the layer against packets whose bytes are written out, and against a model that has bits as texts.

// most is the greatest residue.
const most = 1<<22 - 1

// chance is a row of numbers that do not repeat soon.
type chance uint64

func (x *chance) next() uint64 {
	*x ^= *x << 13
	*x ^= *x >> 7
	*x ^= *x << 17
	return uint64(*x)
}

func (x *chance) below(n int) int {
	return int(x.next() >> 3 % uint64(n))
}

// anyLengths are the lengths of so many codes that leave none over, short and long ones.
func (x *chance) anyLengths(count int) []int {
	if count == 1 {
		return []int{1}
	}
	l, steep := []int{0}, x.below(3)
	for len(l) < count {
		at := x.below(len(l))
		if steep == 0 {
			at = len(l) - 1
		}
		if l[at] == 16 {
			at = slices.Index(l, slices.Min(l))
		}
		l[at]++
		l = append(l, l[at])
	}
	return l
}

// anyBook is a right book of so many symbols, the last one used if that is asked.
func (x *chance) anyBook(symbols int, last bool) []int {
	l := x.anyLengths(1 + x.below(symbols))
	for len(l) < symbols {
		l = append(l, 0)
	}
	for i := range l {
		j := i + x.below(len(l)-i)
		l[i], l[j] = l[j], l[i]
	}
	if last && l[symbols-1] == 0 {
		at := slices.IndexFunc(l, func(n int) bool { return n > 0 })
		l[at], l[symbols-1] = 0, l[at]
	}
	return l
}

func (x *chance) anyHead() vhead.Head {
	if x.below(4) == 0 {
		books := []func() ([]int, []int){plainBooks, steepBooks, loneBooks}
		return headOf(1+x.below(2), books[x.below(3)])
	}
	return vhead.Head{Chans: 1 + x.below(2), Quality: x.below(13), Floor: x.anyBook(45, false), Res: x.anyBook(16, true)}
}

func (x *chance) anyPosts(book []int) []int {
	var used []int
	for s, n := range book {
		if n > 0 {
			used = append(used, s)
		}
	}
	out := make([]int, 6)
	for p := range out {
		out[p] = used[x.below(len(used))]
	}
	return out
}

func (x *chance) anyResidue() int64 {
	v := int64(x.below(most + 1))
	switch x.below(4) {
	case 0:
		v = int64(x.below(20))
	case 1:
		v >>= x.below(23)
	case 2:
		v = int64(x.below(8))
	}
	if x.below(2) == 0 {
		return -v
	}
	return v
}

func (x *chance) anyResidues() []int64 {
	out := make([]int64, 16)
	for i := range out {
		out[i] = x.anyResidue()
	}
	return out
}

// anyBody is a right body for a header.
func (x *chance) anyBody(h vhead.Head) Body {
	b := Body{}
	for range h.Chans {
		if x.below(5) == 0 {
			b.Posts, b.Res = append(b.Posts, nil), append(b.Res, nil)
		} else {
			b.Posts, b.Res = append(b.Posts, x.anyPosts(h.Floor)), append(b.Res, x.anyResidues())
		}
	}
	return b
}

func (x *chance) anyBytes(n int) []byte {
	b := make([]byte, n)
	for i := range b {
		b[i] = byte(x.next() >> 3)
	}
	return b
}

// numbered are the symbols' lengths, said as how many symbols there are of each.
func numbered(pairs ...[2]int) []int {
	var l []int
	for _, p := range pairs {
		l = append(l, slices.Repeat([]int{p[1]}, p[0])...)
	}
	return l
}

func plainBooks() ([]int, []int) {
	return numbered([2]int{19, 5}, [2]int{26, 6}), numbered([2]int{16, 4})
}

// steepBooks have codes of all lengths.
func steepBooks() ([]int, []int) {
	floor := append([]int{1, 2, 3, 4, 5, 6, 7, 8, 9, 10, 11, 12, 13, 14, 15, 16, 16}, make([]int, 28)...)
	return floor, []int{1, 2, 3, 4, 5, 6, 7, 8, 9, 10, 11, 12, 13, 14, 15, 15}
}

// loneBooks use their last symbol alone.
func loneBooks() ([]int, []int) {
	return append(make([]int, 44), 1), append(make([]int, 15), 1)
}

func headOf(chans int, books func() ([]int, []int)) vhead.Head {
	floor, res := books()
	return vhead.Head{Chans: chans, Quality: 5, Floor: floor, Res: res}
}

// one is a body of one channel, with the six posts alike.
func one(post int, residues ...int64) Body {
	return Body{Posts: [][]int{slices.Repeat([]int{post}, 6)}, Res: [][]int64{filled(residues...)}}
}

// filled are 16 residues, the last ones 0.
func filled(first ...int64) []int64 {
	return append(slices.Clone(first), make([]int64, 16-len(first))...)
}

// pair is a header and a body that is right for it.
type pair struct {
	h vhead.Head
	b Body
}

// somePairs are right bodies of all kinds.
func somePairs(x chance, n int) []pair {
	var out []pair
	for range n {
		h := x.anyHead()
		out = append(out, pair{h, x.anyBody(h)})
	}
	return out
}

func copied(b Body) Body {
	out := Body{}
	for _, l := range b.Posts {
		out.Posts = append(out.Posts, slices.Clone(l))
	}
	for _, l := range b.Res {
		out.Res = append(out.Res, slices.Clone(l))
	}
	return out
}

func same(a, b Body) bool {
	return slices.EqualFunc(a.Posts, b.Posts, slices.Equal[[]int]) && slices.EqualFunc(a.Res, b.Res, slices.Equal[[]int64])
}

// none tells whether a body is the zero one.
func none(b Body) bool {
	return len(b.Posts) == 0 && len(b.Res) == 0
}

// modelCodes has a code as the first bits of the shares of all symbols ahead.
func modelCodes(book []int) []string {
	out, share := make([]string, len(book)), 0
	for n := 1; n <= 16; n++ {
		for s, has := range book {
			if has == n {
				out[s] = fmt.Sprintf("%016b", share)[:n]
				share += 1 << (16 - n)
			}
		}
	}
	return out
}

// modelNumber is a number's bits, the lowest one first.
func modelNumber(v int64, n int) string {
	text := []byte(fmt.Sprintf("%0*b", n, v))
	slices.Reverse(text)
	return string(text)
}

func modelPosts(posts []int, codes []string) string {
	if len(posts) == 0 {
		return "0"
	}
	out := "1"
	for _, p := range posts {
		out += codes[p]
	}
	return out
}

// modelEscaped is any number behind the code of the symbol 15.
func modelEscaped(v int64, codes []string) string {
	if v < 0 {
		return codes[15] + "1" + modelNumber(-v, 22)
	}
	return codes[15] + "0" + modelNumber(v, 22)
}

func modelResidue(v int64, codes []string) string {
	for s, c := range codes[:15] {
		if int64(s) == v+7 && c != "" {
			return c
		}
	}
	return modelEscaped(v, codes)
}

// modelBits are a body's bits.
func modelBits(h vhead.Head, b Body) string {
	out, floor, res := "", modelCodes(h.Floor), modelCodes(h.Res)
	for _, posts := range b.Posts {
		out += modelPosts(posts, floor)
	}
	for _, residues := range b.Res {
		for _, v := range residues {
			out += modelResidue(v, res)
		}
	}
	return out
}

// packed are the bytes of bits, the bits of the last one filled up with noughts.
func packed(text string) []byte {
	out := make([]byte, (len(text)+7)/8)
	for k, c := range text {
		if c == '1' {
			out[k/8] += 1 << (k % 8)
		}
	}
	return out
}

func unpacked(b []byte) string {
	out := ""
	for _, v := range b {
		out += modelNumber(int64(v), 8)
	}
	return out
}

func modelWrite(h vhead.Head, b Body) []byte {
	return packed(modelBits(h, b))
}

// modelReader cuts its text from the front on, as long as there is no error.
type modelReader struct {
	text string
	e    api.Errno
}

func (m *modelReader) fail(e api.Errno) {
	if m.e == api.OK {
		m.e = e
	}
}

func (m *modelReader) number(n int) int64 {
	if m.e != api.OK || len(m.text) < n {
		m.fail(api.ErrMore)
		return 0
	}
	v := int64(0)
	for k := range n {
		if m.text[k] == '1' {
			v += 1 << k
		}
	}
	m.text = m.text[n:]
	return v
}

func (m *modelReader) symbol(codes []string) int {
	if m.e != api.OK {
		return 0
	}
	for s, c := range codes {
		if c != "" && strings.HasPrefix(m.text, c) {
			m.text = m.text[len(c):]
			return s
		}
	}
	for _, c := range codes {
		if c != "" && strings.HasPrefix(c, m.text) {
			m.fail(api.ErrMore)
		}
	}
	m.fail(api.ErrForm)
	return 0
}

func (m *modelReader) residue(codes []string) int64 {
	s := m.symbol(codes)
	if s < 15 {
		return int64(s) - 7
	}
	sign, size := 1-2*m.number(1), m.number(22)
	if sign < 0 && size == 0 {
		m.fail(api.ErrForm)
	}
	return sign * size
}

func modelRead(h vhead.Head, b []byte) (Body, api.Errno) {
	m, out := modelReader{text: unpacked(b)}, Body{Posts: make([][]int, h.Chans), Res: make([][]int64, h.Chans)}
	floor, res := modelCodes(h.Floor), modelCodes(h.Res)
	for c := range h.Chans {
		if m.number(1) == 1 {
			for range 6 {
				out.Posts[c] = append(out.Posts[c], m.symbol(floor))
			}
		}
	}
	for c := range h.Chans {
		if len(out.Posts[c]) > 0 {
			for range 16 {
				out.Res[c] = append(out.Res[c], m.residue(res))
			}
		}
	}
	if len(m.text) >= 8 || strings.Contains(m.text, "1") {
		m.fail(api.ErrForm)
	}
	if m.e != api.OK {
		return Body{}, m.e
	}
	return out, api.OK
}

// told is what a call was given, in few words.
func told(h vhead.Head, b Body) string {
	return fmt.Sprintf("%d channels, %v and %v: %.400v and %.800v", h.Chans, h.Floor[:min(len(h.Floor), 45)], h.Res[:min(len(h.Res), 16)], fmt.Sprint(b.Posts), fmt.Sprint(b.Res))
}

func isRight(t *testing.T, h vhead.Head, b Body) {
	t.Helper()
	if !Right(h, b) {
		t.Fatalf("%s: not right", told(h, b))
	}
	if p, e := Write(h, b); e != api.OK || !bytes.Equal(p, modelWrite(h, b)) {
		t.Fatalf("%s: %x, error %d; want %x", told(h, b), p, e, modelWrite(h, b))
	}
}

func isWrong(t *testing.T, h vhead.Head, b Body) {
	t.Helper()
	if Right(h, b) {
		t.Fatalf("%s: right", told(h, b))
	}
	if p, e := Write(h, b); len(p) != 0 || e != api.ErrArg {
		t.Fatalf("%s: %x, error %d", told(h, b), p, e)
	}
}

func readIs(t *testing.T, h vhead.Head, p []byte, want Body) {
	t.Helper()
	if b, e := Read(h, p); e != api.OK || !same(b, want) {
		t.Fatalf("%x: %s, error %d; want %s", p, told(h, b), e, told(h, want))
	}
}

func readFails(t *testing.T, h vhead.Head, p []byte, want api.Errno) {
	t.Helper()
	if b, e := Read(h, p); e != want || !none(b) {
		t.Fatalf("%d bytes %x..: %s, error %d; want error %d", len(p), p[:min(len(p), 200)], told(h, b), e, want)
	}
}

// readIsModel reads any bytes, and answers whether they are a body's.
func readIsModel(t *testing.T, h vhead.Head, p []byte) bool {
	t.Helper()
	b, e := modelRead(h, p)
	if e != api.OK {
		readFails(t, h, p, e)
	} else {
		readIs(t, h, p, b)
	}
	return e == api.OK
}

// handWritten are bodies whose bytes were reckoned aside.
func handWritten() map[string]pair {
	return map[string]pair{
		"00":                       {headOf(1, plainBooks), Body{Posts: [][]int{nil}, Res: [][]int64{nil}}},
		"010000007777777777777777": {headOf(1, plainBooks), one(0)},
		"41ca7e88008945cd23ab67ef210000": {headOf(1, plainBooks), Body{
			Posts: [][]int{{0, 18, 19, 44, 1, 2}},
			Res:   [][]int64{{-7, -6, -5, -4, -3, -2, -1, 0, 1, 2, 3, 4, 5, 6, 7, 8}},
		}},
		"fe5f9ea5781f010078ffffffffffffdddddddddddd00": {headOf(2, plainBooks), Body{
			Posts: [][]int{nil, {44, 43, 20, 19, 18, 17}},
			Res:   [][]int64{nil, {7, -8, most, -most, 0, 0, 0, 0, 0, 0, 0, 0, 0, 0, 0, -1}},
		}},
		"b5fbfffbffffff0ffcfffeff100080ff7f04000000fefe55555515": {headOf(2, steepBooks), Body{
			Posts: [][]int{{0, 1, 2, 3, 15, 16}, {16, 0, 0, 0, 0, 0}},
			Res: [][]int64{
				{-7, 7, 8, -8, -7, -7, -7, -7, -7, -7, -7, -7, -7, -7, -7, -7},
				{0, 1, -6, -6, -6, -6, -6, -6, -6, -6, -6, -6, -6, -6, -6, -6},
			},
		}},
		"010000000200000300000e00000f0000feff7fffff7f545555abaa2a000000000000000000000000000000000000000000": {
			headOf(1, loneBooks), one(44, 0, 1, -1, 7, -7, most, -most, 0x2aaaaa, -0x155555),
		},
	}
}

func bytesOf(t *testing.T, text string) []byte {
	t.Helper()
	b, err := hex.DecodeString(text)
	if err != nil {
		t.Fatalf("%s: %v", text, err)
	}
	return b
}

// wrongHeads are headers that are not right, most of them by one number alone.
func wrongHeads() []vhead.Head {
	out := []vhead.Head{{}, {Chans: 1}, {Chans: 2, Quality: 12, Floor: []int{}, Res: []int{}}}
	with := func(spoil func(h *vhead.Head)) {
		h := headOf(1, plainBooks)
		spoil(&h)
		out = append(out, h)
	}
	for _, n := range []int{-1, 0, 3, 257, 1<<32 + 1, math.MinInt, math.MaxInt} {
		with(func(h *vhead.Head) { h.Chans = n })
	}
	for _, n := range []int{-1, 13, 256, 1 << 32, math.MinInt, math.MaxInt} {
		with(func(h *vhead.Head) { h.Quality = n })
	}
	for _, n := range []int{-1, 0, 3, 6, 7, 17, 32 + 4, 32 + 5, 256 + 4, 256 + 5, 1<<32 + 4, 1<<32 + 5} {
		with(func(h *vhead.Head) { h.Floor[3] = n })
		with(func(h *vhead.Head) { h.Res[3] = n })
	}
	with(func(h *vhead.Head) { h.Floor = h.Floor[:44] })
	with(func(h *vhead.Head) { h.Res = h.Res[:15] })
	with(func(h *vhead.Head) { h.Floor = append(h.Floor, 0) })
	with(func(h *vhead.Head) { h.Res = append(h.Res, 0) })
	with(func(h *vhead.Head) { h.Floor, h.Res = h.Res, h.Floor })
	with(func(h *vhead.Head) { h.Floor = nil })
	with(func(h *vhead.Head) { h.Res = nil })
	with(func(h *vhead.Head) { h.Res = []int{1, 2, 3, 4, 5, 6, 7, 8, 9, 10, 11, 12, 13, 14, 14, 0} })
	return out
}

// P17.1: Right.

func TestMaxRes(t *testing.T) {
	if MaxRes != 4194303 {
		t.Errorf("it is %d", MaxRes)
	}
}

func TestRight(t *testing.T) {
	for _, p := range somePairs(0x9e3779b97f4a7c15, 3000) {
		isRight(t, p.h, p.b)
	}
}

func TestWrongHead(t *testing.T) {
	for _, h := range wrongHeads() {
		for chans := range 4 {
			silent := Body{Posts: make([][]int, chans), Res: make([][]int64, chans)}
			isWrong(t, h, silent)
			b := Body{}
			for range chans {
				b.Posts, b.Res = append(b.Posts, make([]int, 6)), append(b.Res, make([]int64, 16))
			}
			isWrong(t, h, b)
		}
	}
}

func TestEachNumberOfChannels(t *testing.T) {
	x := chance(0xd1342543de82ef95)
	for chans := 1; chans <= 2; chans++ {
		for posts := range 5 {
			for res := range 5 {
				h := headOf(chans, plainBooks)
				silent, loud := Body{Posts: make([][]int, posts), Res: make([][]int64, res)}, Body{}
				for range posts {
					loud.Posts = append(loud.Posts, x.anyPosts(h.Floor))
				}
				for range res {
					loud.Res = append(loud.Res, x.anyResidues())
				}
				if posts == chans && res == chans {
					isRight(t, h, silent)
					isRight(t, h, loud)
				} else {
					isWrong(t, h, silent)
					isWrong(t, h, loud)
				}
			}
		}
	}
	isWrong(t, headOf(1, plainBooks), Body{})
	isWrong(t, headOf(2, plainBooks), Body{})
	// Not even where the spare room would make them enough.
	b := x.anyBody(headOf(2, plainBooks))
	isWrong(t, headOf(2, plainBooks), Body{Posts: b.Posts[:1], Res: b.Res})
	isWrong(t, headOf(2, plainBooks), Body{Posts: b.Posts, Res: b.Res[:1]})
}

func TestNilAndEmptyListsAreAlike(t *testing.T) {
	h := headOf(2, plainBooks)
	for _, posts := range [][]int{nil, {}, make([]int, 0, 6)} {
		for _, res := range [][]int64{nil, {}, make([]int64, 0, 16)} {
			isRight(t, h, Body{Posts: [][]int{posts, {1, 2, 3, 4, 5, 6}}, Res: [][]int64{res, filled(9)}})
			isRight(t, h, Body{Posts: [][]int{{1, 2, 3, 4, 5, 6}, posts}, Res: [][]int64{filled(9), res}})
			isRight(t, h, Body{Posts: [][]int{posts, posts}, Res: [][]int64{res, res}})
		}
	}
}

func TestHowManyPosts(t *testing.T) {
	for chans := 1; chans <= 2; chans++ {
		for at := range chans {
			for _, n := range []int{1, 2, 3, 4, 5, 6, 7, 8, 12, 16, 44, 45, 256 + 6, 65536 + 6} {
				h := headOf(chans, plainBooks)
				b := Body{Posts: make([][]int, chans), Res: make([][]int64, chans)}
				b.Posts[at], b.Res[at] = make([]int, n), make([]int64, 16)
				if n == 6 {
					isRight(t, h, b)
					continue
				}
				isWrong(t, h, b)
				b.Res[at] = nil
				isWrong(t, h, b)
			}
		}
	}
	all := make([]int, 7)
	isWrong(t, headOf(1, plainBooks), Body{Posts: [][]int{all[:5]}, Res: [][]int64{filled()}})
}

func TestWrongPosts(t *testing.T) {
	for _, v := range []int{-1, -2, -44, -45, 45, 46, 63, 64, -256, -256 + 3, 255, 256, 256 + 3, 65536 + 3, 1 << 32, 1<<32 + 3, -(1 << 32) + 3, math.MaxInt, math.MinInt, math.MinInt + 3} {
		for p := range 6 {
			for at := range 2 {
				b := Body{Posts: [][]int{make([]int, 6), make([]int, 6)}, Res: [][]int64{filled(), filled()}}
				isRight(t, headOf(2, plainBooks), b)
				b.Posts[at][p] = v
				isWrong(t, headOf(2, plainBooks), b)
			}
		}
	}
}

// Each gain at each place, by a book that does not use all of them.
func TestPostsThatFloorDoesNotUse(t *testing.T) {
	x := chance(0x94d049bb133111eb)
	for range 30 {
		h := x.anyHead()
		h.Chans = 1
		for g := range 45 {
			for p := range 6 {
				b := Body{Posts: [][]int{x.anyPosts(h.Floor)}, Res: [][]int64{x.anyResidues()}}
				b.Posts[0][p] = g
				if h.Floor[g] > 0 {
					isRight(t, h, b)
				} else {
					isWrong(t, h, b)
				}
			}
		}
	}
	isWrong(t, headOf(1, loneBooks), one(0))
	isWrong(t, headOf(1, loneBooks), one(43))
	isRight(t, headOf(1, loneBooks), one(44))
}

func TestHowManyResidues(t *testing.T) {
	for chans := 1; chans <= 2; chans++ {
		for at := range chans {
			for _, n := range []int{0, 1, 2, 5, 6, 8, 14, 15, 16, 17, 18, 32, 256 + 16, 65536, 65536 + 16} {
				h := headOf(chans, plainBooks)
				b := Body{Posts: make([][]int, chans), Res: make([][]int64, chans)}
				b.Res[at] = make([]int64, n)
				if n == 0 {
					isRight(t, h, b)
				} else {
					isWrong(t, h, b)
				}
				b.Posts[at] = make([]int, 6)
				if n == 16 {
					isRight(t, h, b)
				} else {
					isWrong(t, h, b)
				}
			}
		}
	}
	// Residues and posts of one channel do not stand for those of the other one.
	isWrong(t, headOf(2, plainBooks), Body{Posts: [][]int{make([]int, 6), nil}, Res: [][]int64{nil, filled()}})
	isWrong(t, headOf(2, plainBooks), Body{Posts: [][]int{nil, make([]int, 6)}, Res: [][]int64{filled(), nil}})
	isWrong(t, headOf(1, plainBooks), Body{Posts: [][]int{make([]int, 6)}, Res: [][]int64{filled()[:15]}})
}

func TestEdgesOfResidues(t *testing.T) {
	for _, books := range []func() ([]int, []int){plainBooks, steepBooks, loneBooks} {
		h := headOf(2, books)
		post := slices.IndexFunc(h.Floor, func(n int) bool { return n > 0 })
		for i := range 16 {
			for at := range 2 {
				b := Body{Posts: [][]int{slices.Repeat([]int{post}, 6), slices.Repeat([]int{post}, 6)}, Res: [][]int64{filled(), filled()}}
				for _, v := range []int64{most, -most, most - 1, 1 << 21, -1 << 21, 0} {
					b.Res[at][i] = v
					isRight(t, h, b)
				}
				for _, v := range []int64{most + 1, most + 2, most + 8, 1 << 23, 1<<23 + 1, 1 << 31, 1 << 32, 1<<32 + 1, 1<<40 - 3, 1 << 62, math.MaxInt64, math.MaxInt64 - 7} {
					b.Res[at][i] = v
					isWrong(t, h, b)
					b.Res[at][i] = -v
					isWrong(t, h, b)
				}
				b.Res[at][i] = math.MinInt64
				isWrong(t, h, b)
				b.Res[at][i] = math.MinInt64 + 8
				isWrong(t, h, b)
			}
		}
	}
}

// P17.1: Write.

func TestWriteByHand(t *testing.T) {
	for text, p := range handWritten() {
		if b, e := Write(p.h, p.b); e != api.OK || !bytes.Equal(b, bytesOf(t, text)) {
			t.Errorf("%s: %x, error %d; want %s", told(p.h, p.b), b, e, text)
		}
	}
}

// Each small number at each place, by each book that lacks one symbol, or has that one and the last one alone.
func TestOwnSymbols(t *testing.T) {
	for s := range 15 {
		floor, res := loneBooks()
		alone := vhead.Head{Chans: 1, Floor: floor, Res: slices.Clone(res)}
		alone.Res[s] = 1
		lacks := vhead.Head{Chans: 1, Floor: floor, Res: numbered([2]int{14, 4}, [2]int{1, 0}, [2]int{1, 3})}
		lacks.Res[s], lacks.Res[14] = lacks.Res[14], lacks.Res[s]
		for i := range 16 {
			for v := int64(-20); v <= 20; v++ {
				b := one(44)
				b.Res[0][i] = v
				isRight(t, alone, b)
				isRight(t, lacks, b)
			}
		}
		own, other := one(44, slices.Repeat([]int64{int64(s) - 7}, 16)...), one(44, slices.Repeat([]int64{int64(s) - 8}, 16)...)
		bitsAre(t, alone, own, 1+6+16)
		bitsAre(t, alone, other, 1+6+16*24)
		bitsAre(t, lacks, own, 1+6+16*26)
	}
	h := headOf(1, plainBooks)
	bitsAre(t, h, one(0, slices.Repeat([]int64{7}, 16)...), 95)
	bitsAre(t, h, one(0, slices.Repeat([]int64{-7}, 16)...), 95)
	bitsAre(t, h, one(0, slices.Repeat([]int64{8}, 16)...), 31+16*27)
	bitsAre(t, h, one(0, slices.Repeat([]int64{-8}, 16)...), 31+16*27)
}

func bitsAre(t *testing.T, h vhead.Head, b Body, want int) {
	t.Helper()
	if p, e := Write(h, b); e != api.OK || len(p) != (want+7)/8 {
		t.Errorf("%s: %d bytes, error %d; want %d bits", told(h, b), len(p), e, want)
	}
}

// Each gain at each post, each of its own code.
func TestEachPost(t *testing.T) {
	for _, books := range []func() ([]int, []int){plainBooks, steepBooks} {
		h := headOf(1, books)
		for g, n := range h.Floor {
			for p := range 6 {
				if n > 0 {
					b := one(0, 3)
					b.Posts[0][p] = g
					isRight(t, h, b)
				}
			}
		}
	}
}

// P17.2: Read.

func TestReadByHand(t *testing.T) {
	for text, p := range handWritten() {
		readIs(t, p.h, bytesOf(t, text), p.b)
	}
}

func TestReadByWrongHead(t *testing.T) {
	for _, h := range wrongHeads() {
		for _, p := range [][]byte{nil, {}, {0}, {1}, {255}, {0, 0}, make([]byte, 12), make([]byte, 4001), bytes.Repeat([]byte{255}, 400)} {
			readFails(t, h, p, api.ErrArg)
		}
		for text := range handWritten() {
			readFails(t, h, bytesOf(t, text), api.ErrArg)
		}
	}
}

func TestReadOfTooFew(t *testing.T) {
	readFails(t, headOf(1, plainBooks), nil, api.ErrMore)
	readFails(t, headOf(2, plainBooks), []byte{}, api.ErrMore)
	for _, p := range somePairs(0x2545f4914f6cdd1d, 200) {
		b := modelWrite(p.h, p.b)
		for n := range b {
			readFails(t, p.h, b[:n], api.ErrMore)
			readFails(t, p.h, slices.Clone(b[:n:n]), api.ErrMore)
		}
	}
}

func TestReadOfTooMany(t *testing.T) {
	for _, p := range somePairs(0x6c62272e07bb0142, 200) {
		b := modelWrite(p.h, p.b)
		for _, more := range []int{1, 2, 8, 40, 400, 4000} {
			readFails(t, p.h, append(slices.Clone(b), make([]byte, more)...), api.ErrForm)
		}
		readFails(t, p.h, append(slices.Clone(b), 1), api.ErrForm)
		readFails(t, p.h, append(slices.Clone(b), 255), api.ErrForm)
		readFails(t, p.h, slices.Concat(b, b), api.ErrForm)
	}
	readFails(t, headOf(1, plainBooks), make([]byte, 65537), api.ErrForm)
}

// Bits left, from none on, as many as there are.
func TestReadOfBitsLeft(t *testing.T) {
	met := map[int]int{}
	for _, p := range somePairs(0x5851f42d4c957f2d, 400) {
		text := modelBits(p.h, p.b)
		left := 8*((len(text)+7)/8) - len(text)
		met[left]++
		for k := range left {
			readFails(t, p.h, packed(text+strings.Repeat("0", k)+"1"), api.ErrForm)
		}
		readFails(t, p.h, packed(text+strings.Repeat("1", left+1)), api.ErrForm)
		readIs(t, p.h, packed(text), p.b)
	}
	for left := range 8 {
		if met[left] == 0 {
			t.Errorf("no body leaves %d bits", left)
		}
	}
}

func TestReadOfSilentChannels(t *testing.T) {
	for chans := 1; chans <= 2; chans++ {
		h := headOf(chans, plainBooks)
		silent := Body{Posts: make([][]int, chans), Res: make([][]int64, chans)}
		readIs(t, h, []byte{0}, silent)
		for v := 1 << chans; v < 256; v += 1 << chans {
			readFails(t, h, []byte{byte(v)}, api.ErrForm)
		}
		readFails(t, h, []byte{1}, api.ErrMore)
		readFails(t, h, []byte{0, 0}, api.ErrForm)
		readFails(t, h, []byte{0, 1}, api.ErrForm)
	}
	readFails(t, headOf(2, plainBooks), []byte{2}, api.ErrMore)
}

// escapedAt are the bits of posts and residues 0, but that the i-th one is so many bits.
func escapedAt(h vhead.Head, b Body, i int, bits string) string {
	codes, text := modelCodes(h.Res), modelPosts(b.Posts[0], modelCodes(h.Floor))
	for k, v := range b.Res[0] {
		if k == i {
			text += bits
		} else {
			text += modelResidue(v, codes)
		}
	}
	return text
}

func TestReadOfNoughtBelowNought(t *testing.T) {
	for _, books := range []func() ([]int, []int){plainBooks, steepBooks, loneBooks} {
		h, b := headOf(1, books), one(44, 1, -2, 30, -40)
		if h.Floor[44] == 0 {
			b = one(0, 1, -2, 30, -40)
		}
		code := modelCodes(h.Res)[15]
		for i := range 16 {
			readFails(t, h, packed(escapedAt(h, b, i, code+"1"+strings.Repeat("0", 22))), api.ErrForm)
			want := copied(b)
			want.Res[0][i] = 0
			readIs(t, h, packed(escapedAt(h, b, i, code+"0"+strings.Repeat("0", 22))), want)
			for k := range 22 {
				size := strings.Repeat("0", k) + "1" + strings.Repeat("0", 21-k)
				want.Res[0][i] = 1 << k
				readIs(t, h, packed(escapedAt(h, b, i, code+"0"+size)), want)
				want.Res[0][i] = -1 << k
				readIs(t, h, packed(escapedAt(h, b, i, code+"1"+size)), want)
			}
		}
	}
}

// Numbers that have a symbol of their own may stand escaped too.
func TestReadOfNeedlessEscapes(t *testing.T) {
	for _, books := range []func() ([]int, []int){plainBooks, steepBooks} {
		h, b := headOf(1, books), one(3, 1, -2, 30, -40)
		for v := int64(-9); v <= 9; v++ {
			for i := range 16 {
				want := copied(b)
				want.Res[0][i] = v
				readIs(t, h, packed(escapedAt(h, b, i, modelEscaped(v, modelCodes(h.Res)))), want)
			}
		}
	}
}

// What comes first is told, whatever is wrong behind it.
func TestReadTellsWhatComesFirst(t *testing.T) {
	lone, plain := headOf(1, loneBooks), headOf(1, plainBooks)
	for p := range 6 {
		ahead := "1" + strings.Repeat("0", p)
		for _, behind := range []string{"", "0", "1", strings.Repeat("1", 400)} {
			readFails(t, lone, packed(ahead+"1"+behind), api.ErrForm)
		}
	}
	posts := "1" + strings.Repeat("0", 6)
	escaped := "0" + "0" + strings.Repeat("0", 22)
	for i := range 16 {
		ahead := posts + strings.Repeat(escaped, i)
		for _, behind := range []string{"", "0", "1", strings.Repeat("1", 400)} {
			readFails(t, lone, packed(ahead+"1"+behind), api.ErrForm)
			readFails(t, lone, packed(ahead+"01"+strings.Repeat("0", 22)+behind), api.ErrForm)
		}
		// The bits end within the number below 0, whose size might come to 0.
		whole := packed(ahead + "01" + strings.Repeat("0", 22))
		readFails(t, lone, whole[:len(whole)-1], api.ErrMore)
	}
	// The bits end behind a nought below 0, and ahead of more numbers.
	ends := packed("1" + strings.Repeat("0", 30) + "1111" + "1" + strings.Repeat("0", 22))
	readFails(t, plain, ends, api.ErrForm)
	readFails(t, plain, ends[:len(ends)-1], api.ErrMore)
	// Posts of both channels come ahead of all residues.
	two := headOf(2, loneBooks)
	readFails(t, two, packed(posts+"1"+"1"+strings.Repeat("0", 400)), api.ErrForm)
	readFails(t, two, packed(posts+"0"+"01"+strings.Repeat("0", 22)), api.ErrForm)
	readFails(t, two, packed(posts+"1"), api.ErrMore)
}

func TestReadOfEachBitTurned(t *testing.T) {
	for _, p := range somePairs(0x165667b19e3779f9, 60) {
		b := modelWrite(p.h, p.b)
		for k := range 8 * len(b) {
			b[k/8] ^= 1 << (k % 8)
			readIsModel(t, p.h, b)
			b[k/8] ^= 1 << (k % 8)
		}
	}
}

func TestReadOfAnyBytes(t *testing.T) {
	x := chance(0x85ebca77c2b2ae63)
	for range 4000 {
		h := x.anyHead()
		readIsModel(t, h, x.anyBytes(x.below(130)))
	}
}

// P17.3

func TestReadOfWrite(t *testing.T) {
	for _, p := range somePairs(0xc2b2ae3d27d4eb4f, 3000) {
		b, e := Write(p.h, p.b)
		if e != api.OK {
			t.Fatalf("%s: error %d", told(p.h, p.b), e)
		}
		readIs(t, p.h, b, p.b)
	}
}

// P17.4

// spoilt are the bits of a body of the model, some turned or some of its numbers escaped, cut or filled to fit where they are read.
func spoilt(x *chance, h vhead.Head, b Body) []byte {
	text := []byte(modelBits(h, b))
	for range x.below(4) {
		at := x.below(len(text))
		text[at] ^= 1
	}
	if x.below(2) == 0 {
		text = append(text, "1011001110001111"[:1+x.below(16)]...)
	}
	p := packed(string(text))
	for n := range p {
		if _, e := modelRead(h, p[:n]); e == api.OK {
			return p[:n]
		}
	}
	return p
}

func TestWhatIsReadIsRight(t *testing.T) {
	x, read, others := chance(0x27d4eb2f165667c5), 0, 0
	for _, p := range somePairs(0x3c6ef372fe94f82b, 3000) {
		packet := spoilt(&x, p.h, p.b)
		b, e := Read(p.h, packet)
		if e != api.OK {
			continue
		}
		read++
		if !Right(p.h, b) {
			t.Fatalf("%x: %s: not right", packet, told(p.h, b))
		}
		again, e := Write(p.h, b)
		if e != api.OK {
			t.Fatalf("%x: %s: error %d", packet, told(p.h, b), e)
		}
		if !bytes.Equal(again, packet) {
			others++
		}
		readIs(t, p.h, again, b)
	}
	if read < 700 || others < 20 {
		t.Errorf("%d are read, %d of them written otherwise", read, others)
	}
}

func TestNeedlessEscapesAreReadAgain(t *testing.T) {
	h := headOf(1, plainBooks)
	for v := int64(-7); v <= 7; v++ {
		packet := packed(escapedAt(h, one(2), 5, modelEscaped(v, modelCodes(h.Res))))
		b, e := Read(h, packet)
		if e != api.OK {
			t.Fatalf("%d: error %d", v, e)
		}
		isRight(t, h, b)
		again, _ := Write(h, b)
		if len(again) != 12 {
			t.Errorf("%d: written again as %x", v, again)
		}
		readIs(t, h, again, b)
	}
}

// P17.5

// The longest body there is: both channels with posts of 16 bits each, and residues of 15 bits and an escaped number.
func TestLongestBody(t *testing.T) {
	h := headOf(2, steepBooks)
	posts, res := slices.Repeat([]int{16}, 6), slices.Repeat([]int64{-most}, 16)
	b := Body{Posts: [][]int{posts, posts}, Res: [][]int64{res, res}}
	isRight(t, h, b)
	p, e := Write(h, b)
	if e != api.OK || len(p) != 177 || len(p) > api.MaxPacket {
		t.Errorf("%d bytes, error %d", len(p), e)
	}
	readIs(t, h, p, b)
}

func TestNoBodyIsLongerThanMaxPacket(t *testing.T) {
	for _, p := range somePairs(0xa54ff53a5f1d36f1, 3000) {
		if b, e := Write(p.h, p.b); e != api.OK || len(b) < 1 || len(b) > 177 {
			t.Fatalf("%s: %d bytes, error %d", told(p.h, p.b), len(b), e)
		}
	}
}

// The first error is remembered, and nothing is written behind it.
func TestWriterRemembersTheFirstError(t *testing.T) {
	for _, wrong := range [][2]int{{2, 1}, {1, 0}, {0, 33}} {
		w := writer{}
		w.put(5, 3)
		w.put(uint64(wrong[0]), wrong[1])
		w.put(1, 1)
		w.putSymbol(0, []int{1, 1})
		if w.first != api.ErrArg || w.N != 3 || !bytes.Equal(w.B, []byte{5}) {
			t.Errorf("%d: %d bits %x, error %d", wrong, w.N, w.B, w.first)
		}
	}
	w := writer{}
	w.putSymbol(1, []int{1, 0})
	w.put(1, 1)
	if w.first != api.ErrArg || w.N != 0 {
		t.Errorf("%d bits, error %d", w.N, w.first)
	}
}

// R3: what is handed in stays as it is, its spare room too, and what is answered is new memory, of lists that share none. R4: what was done with an answer is not to be seen in the next one.

func spoilAll[T int | int64 | byte](lists ...[]T) {
	for _, l := range lists {
		l = l[:cap(l)]
		for i := range l {
			l[i] = 77
		}
	}
}

// roomy is a list with spare room, which is its own.
func roomy[T any](l []T, spare ...T) []T {
	return append(slices.Clone(l), spare...)[:len(l)]
}

// spoilBody writes over a body's lists, and their spare room, the outer ones too.
func spoilBody(b Body) {
	spoilAll(b.Posts[:cap(b.Posts)]...)
	spoilAll(b.Res[:cap(b.Res)]...)
	for c := range b.Posts[:cap(b.Posts)] {
		b.Posts[:cap(b.Posts)][c] = []int{77}
	}
	for c := range b.Res[:cap(b.Res)] {
		b.Res[:cap(b.Res)][c] = []int64{77}
	}
}

func TestArgumentsStay(t *testing.T) {
	for _, p := range somePairs(0x6a09e667f3bcc909, 500) {
		h, was, packet := p.h, copied(p.b), modelWrite(p.h, p.b)
		b, room := copied(p.b), roomy(packet, 9, 9, 9)
		h.Floor, h.Res = roomy(h.Floor, 5, 6), roomy(h.Res, 3, 4)
		for c := range b.Posts {
			b.Posts[c], b.Res[c] = roomy(b.Posts[c], 8, 8), roomy(b.Res[c], 7, 7)
		}
		b.Posts, b.Res = roomy(b.Posts, []int{6}), roomy(b.Res, []int64{6})
		Right(h, b)
		written, _ := Write(h, b)
		read, _ := Read(h, room)
		spoilAll(written)
		spoilBody(read)
		if !same(b, was) || !slices.Equal(h.Floor, p.h.Floor) || !slices.Equal(h.Res, p.h.Res) {
			t.Fatalf("%s: changed", told(p.h, was))
		}
		for c := range b.Posts {
			if n := len(b.Posts[c]); !slices.Equal(b.Posts[c][n:n+2], []int{8, 8}) {
				t.Fatalf("%s: the spare room of posts is changed", told(p.h, was))
			}
			if n := len(b.Res[c]); !slices.Equal(b.Res[c][n:n+2], []int64{7, 7}) {
				t.Fatalf("%s: the spare room of residues is changed", told(p.h, was))
			}
		}
		if n := p.h.Chans; !slices.Equal(b.Posts[n : n+1][0], []int{6}) || !slices.Equal(b.Res[n : n+1][0], []int64{6}) {
			t.Fatalf("%s: the spare room of the lists is changed", told(p.h, was))
		}
		if !slices.Equal(h.Floor[45:47], []int{5, 6}) || !slices.Equal(h.Res[16:18], []int{3, 4}) {
			t.Fatalf("%s: the spare room of the books is changed", told(p.h, was))
		}
		if n := len(packet); !bytes.Equal(room, packet) || !bytes.Equal(room[n:n+3], []byte{9, 9, 9}) {
			t.Fatalf("%x: changed", packet)
		}
	}
}

// What is written and read does not follow what its argument becomes.
func TestArgumentsAreNotKept(t *testing.T) {
	for _, p := range somePairs(0xbb67ae8584caa73b, 500) {
		was, want := copied(p.b), modelWrite(p.h, p.b)
		written, _ := Write(p.h, p.b)
		read, _ := Read(p.h, want)
		packet := slices.Clone(want)
		spoilBody(p.b)
		spoilAll(want)
		spoilAll(p.h.Floor, p.h.Res)
		if !bytes.Equal(written, packet) {
			t.Fatalf("%x: the bytes follow the body", packet)
		}
		if !same(read, was) {
			t.Fatalf("%x: the body follows the bytes", packet)
		}
	}
}

func TestAnswersAreNewMemory(t *testing.T) {
	for _, p := range somePairs(0x510e527fade682d1, 500) {
		packet := modelWrite(p.h, p.b)
		first, _ := Write(p.h, p.b)
		second, _ := Write(p.h, p.b)
		spoilAll(first)
		if !bytes.Equal(second, packet) {
			t.Fatalf("%x: two answers share memory", packet)
		}
		listsAreTheirOwn(t, p, packet)
		isRight(t, p.h, p.b)
		readIs(t, p.h, packet, p.b)
	}
}

// listsAreTheirOwn spoils the lists of an answer one by one, its spare room too: none but that one is changed, and no other answer.
func listsAreTheirOwn(t *testing.T, p pair, packet []byte) {
	t.Helper()
	other, _ := Read(p.h, packet)
	for c := range 2 * p.h.Chans {
		read, _ := Read(p.h, packet)
		want := copied(p.b)
		if at := c / 2; c%2 == 0 {
			spoilAll(read.Posts[at])
			want.Posts[at] = slices.Clone(read.Posts[at])
		} else {
			spoilAll(read.Res[at])
			want.Res[at] = slices.Clone(read.Res[at])
		}
		if !same(read, want) {
			t.Fatalf("%x: lists of an answer share memory", packet)
		}
	}
	if !same(other, p.b) {
		t.Fatalf("%x: two answers share memory", packet)
	}
}
