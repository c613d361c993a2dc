// Package octet is layer 1: see shared/doc/01-octet.md.
package octet

import (
	"math"

	"copse/api"
)

// A text's length is laid in so many bytes, an int in so many.
const (
	lengthWidth = 4
	intWidth    = 8
)

// Put lays a number behind bytes.
func Put[T uint8 | uint16 | uint32 | uint64](b []byte, v T) []byte {
	return lay(room(b, intWidth), v)
}

// Text lays a text behind bytes.
func Text(b []byte, s string) []byte {
	out := lay(room(b, lengthWidth+len(s)), uint32(len(s)))
	return append(out, s...)
}

// Join lays rows one behind the other.
func Join(rows ...[]byte) []byte {
	total := 0
	for _, row := range rows {
		total += len(row)
	}
	out := room(nil, total)
	for _, row := range rows {
		out = append(out, row...)
	}
	return out
}

// room copies b into a list with space for more bytes: appending to b itself
// could write into spare room that belongs to the caller.
func room(b []byte, more int) []byte {
	return append(make([]byte, 0, len(b)+more), b...)
}

// lay appends to a list that room made, and is handed no other. It walks in
// uint64, since a shift by 8 is the whole width of the smallest T.
func lay[T uint8 | uint16 | uint32 | uint64](out []byte, v T) []byte {
	rest := uint64(v)
	for mask := uint64(^T(0)); mask != 0; mask >>= 8 {
		out = append(out, byte(rest))
		rest >>= 8
	}
	return out
}

// Reader reads bytes.
type Reader struct {
	left []byte
}

// NewReader gives one.
func NewReader(b []byte) *Reader {
	return &Reader{left: room(b, 0)}
}

// Number reads a number.
func (r *Reader) Number(width int) (uint64, api.Errno) {
	switch width {
	case 1, 2, 4, 8:
	default:
		return 0, api.ErrBytes
	}
	n, e := r.peek(width)
	if e != api.OK {
		return 0, e
	}
	r.left = r.left[width:]
	return n, api.OK
}

// Int reads one of eight bytes that an int has.
func (r *Reader) Int() (int, api.Errno) {
	n, e := r.peek(intWidth)
	if e != api.OK {
		return 0, e
	}
	if n > math.MaxInt64 {
		return 0, api.ErrBytes
	}
	r.left = r.left[intWidth:]
	return int(n), api.OK
}

// Text reads a text.
func (r *Reader) Text(most int) (string, api.Errno) {
	n, e := r.peek(lengthWidth)
	if e != api.OK {
		return "", e
	}
	// n has four bytes at most, so an int holds it, and a negative most is
	// below every n.
	length := int(n)
	if length > most {
		return "", api.ErrBytes
	}
	behind := r.left[lengthWidth:]
	if length > len(behind) {
		return "", api.ErrShort
	}
	r.left = behind[length:]
	return string(behind[:length]), api.OK
}

// Left tells how many bytes are left.
func (r *Reader) Left() int {
	return len(r.left)
}

// End tells whether none is.
func (r *Reader) End() api.Errno {
	if r.Left() != 0 {
		return api.ErrBytes
	}
	return api.OK
}

// peek reads a number and takes nothing, for a call that goes on to fail may
// not have taken it.
func (r *Reader) peek(width int) (uint64, api.Errno) {
	if width > len(r.left) {
		return 0, api.ErrShort
	}
	n := uint64(0)
	for i := width - 1; i >= 0; i-- {
		n = n<<8 | uint64(r.left[i])
	}
	return n, api.OK
}
