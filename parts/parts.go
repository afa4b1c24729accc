// Package parts reads encodings part by part, and writes numbers with the most significant byte first.
package parts

import (
	"cordwood/api"
	"cordwood/codec"
)

// Big returns the last bytes of a number, as many as size says, with the most significant one first.
func Big(n uint64, size int) string {
	b := make([]byte, size)
	for i := range b {
		b[size-1-i] = byte(n)
		n >>= 8
	}
	return string(b)
}

// number returns the number with some bytes, the most significant one first.
func number(s string) uint64 {
	n := uint64(0)
	for i := range len(s) {
		n = n<<8 | uint64(s[i])
	}
	return n
}

// Digest returns the bytes of a digest.
func Digest(d api.Digest) string { return Big(d[0], 8) + Big(d[1], 8) }

// Bool returns the number that stands for a truth value.
func Bool(b bool) int {
	if b {
		return 1
	}
	return 0
}

// Signed returns the number that stands for one that can be negative.
func Signed(n int) int {
	if n < 0 {
		return -2*n + 1
	}
	return 2 * n
}

// Int returns the encoding of a number from 0 to api.MaxInt.
func Int(n int) string {
	s, _ := codec.PutInt(n)
	return s
}

// Text returns the encoding of a text of at most api.MaxData bytes.
func Text(s string) string {
	t, _ := codec.PutText(s)
	return t
}

// Reader reads the parts at the beginning of a string. After the first one that is wrong, it reads zero values only.
type Reader struct {
	rest string
	bad  bool
}

// Read returns a reader of a string.
func Read(s string) *Reader { return &Reader{rest: s} }

// Fail remembers that something is wrong.
func (r *Reader) Fail() { r.rest, r.bad = "", true }

// Bad reports whether something is wrong.
func (r *Reader) Bad() bool { return r.bad }

// Left returns how many bytes have not been read.
func (r *Reader) Left() int { return len(r.rest) }

// Done reports whether everything has been read, and nothing is wrong.
func (r *Reader) Done() bool { return !r.bad && r.rest == "" }

// Bytes reads a number of bytes.
func (r *Reader) Bytes(n int) string {
	if n < 0 || n > len(r.rest) {
		r.Fail()
		return ""
	}
	s := r.rest[:n]
	r.rest = r.rest[n:]
	return s
}

// Big reads a number of some bytes, the most significant one first.
func (r *Reader) Big(size int) uint64 { return number(r.Bytes(size)) }

// Digest reads a digest.
func (r *Reader) Digest() api.Digest { return api.Digest{r.Big(8), r.Big(8)} }

// Int reads a number.
func (r *Reader) Int() int {
	n, size, e := codec.GetInt(r.rest)
	if e != api.OK {
		r.Fail()
	}
	r.Bytes(size)
	return n
}

// Signed reads a number that can be negative.
func (r *Reader) Signed() int {
	n := r.Int()
	if n == 1 {
		// There is no negative zero.
		r.Fail()
		return 0
	}
	if n%2 == 1 {
		return -(n / 2)
	}
	return n / 2
}

// Count reads how many elements follow. Each of them has at least one byte, so there can't be more of them than bytes.
func (r *Reader) Count() int {
	n := r.Int()
	if n > len(r.rest) {
		r.Fail()
		return 0
	}
	return n
}

// Bool reads a truth value.
func (r *Reader) Bool() bool {
	n := r.Int()
	if n > 1 {
		r.Fail()
	}
	return n == 1
}

// Text reads a text.
func (r *Reader) Text() string {
	s, size, e := codec.GetText(r.rest)
	if e != api.OK {
		r.Fail()
	}
	r.Bytes(size)
	return s
}
