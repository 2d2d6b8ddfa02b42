// Package bits packs numbers into bits, and reads them.
package bits

import "psaltery/api"

// maxWidth is the most bits that one call moves.
const maxWidth = 32

// Writer is bits that are written: bytes B, of which the first N bits count.
type Writer struct {
	B []byte
	N int
}

// Reader is bits that are read: bytes B, of which At bits are read.
type Reader struct {
	B  []byte
	At int
}

// Right: may a writer be?
func Right(w Writer) bool {
	if w.N < 0 || w.N > api.MaxBits || len(w.B) != bytesFor(w.N) {
		return false
	}
	used := w.N % 8
	return used == 0 || w.B[len(w.B)-1]>>used == 0
}

// Put writes a number, its lowest bit first, behind what is written.
func Put(w Writer, v uint64, n int) (Writer, api.Errno) {
	if !Right(w) {
		w = Writer{}
	}
	if !widthFits(n) || v>>n != 0 {
		return grown(w, 0), api.ErrArg
	}
	if w.N+n > api.MaxBits {
		return grown(w, 0), api.ErrFull
	}
	out := grown(w, n)
	for i := range n {
		at := w.N + i
		out.B[at/8] |= byte(v>>i&1) << (at % 8)
	}
	return out, api.OK
}

// Left answers how many bits are left.
func Left(r Reader) int {
	all := 8 * len(r.B)
	if r.At < 0 || r.At > all {
		return 0
	}
	return all - r.At
}

// Get reads a number, its lowest bit first, from where the reader stands.
func Get(r Reader, n int) (Reader, uint64, api.Errno) {
	if !widthFits(n) || r.At < 0 {
		return r, 0, api.ErrArg
	}
	// Left is 0 beyond the end too, where not even 0 bits can be read; and At + n may be no int there.
	if r.At > 8*len(r.B) || Left(r) < n {
		return r, 0, api.ErrMore
	}
	v := uint64(0)
	for i := range n {
		at := r.At + i
		v |= uint64(r.B[at/8]>>(at%8)&1) << i
	}
	return Reader{B: r.B, At: r.At + n}, v, api.OK
}

func widthFits(n int) bool {
	return n >= 0 && n <= maxWidth
}

func bytesFor(n int) int {
	return (n + 7) / 8
}

// grown answers a copy with n more bits, all 0: a writer that is handed in is never written to, nor shared, even where nothing is added.
func grown(w Writer, n int) Writer {
	b := make([]byte, bytesFor(w.N+n))
	copy(b, w.B)
	return Writer{B: b, N: w.N + n}
}
