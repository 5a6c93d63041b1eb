// Package nums is numbers and bytes, in just one way.
package nums

import (
	"notcher/api"
)

// widest is how many bytes the greatest number has.
const widest = 8

// Writer puts numbers and bytes.
type Writer struct {
	out []byte
}

// NewWriter is one that has put nothing.
func NewWriter() *Writer { return &Writer{} }

// Uint puts a number.
func (w *Writer) Uint(x uint64) {
	if w == nil {
		return
	}
	n := width(x)
	w.out = append(w.out, byte(n))
	for shift := 8 * (n - 1); shift >= 0; shift -= 8 {
		w.out = append(w.out, byte(x>>shift))
	}
}

// width is how many bytes of a number follow: noughts in front don't, so that there is just one way to put it.
func width(x uint64) int {
	n := widest
front:
	for shift := 8 * (widest - 1); shift >= 0; shift -= 8 {
		switch byte(x >> shift) {
		case 0:
			n--
		default:
			break front
		}
	}
	return n
}

// Bytes puts bytes, with how many they are.
func (w *Writer) Bytes(b []byte) {
	w.Uint(uint64(len(b)))
	w.Raw(b)
}

// Raw puts bytes as they are.
func (w *Writer) Raw(b []byte) {
	if w == nil {
		return
	}
	w.out = append(w.out, b...)
}

// Out is all that was put, as a copy: more may be put behind it.
func (w *Writer) Out() []byte {
	if w == nil {
		return nil
	}
	return append([]byte(nil), w.out...)
}

// Reader reads numbers and bytes.
type Reader struct {
	left []byte
	err  api.Errno
}

// NewReader is one of bytes, of which it keeps a copy: they stay the caller's.
func NewReader(b []byte) *Reader { return &Reader{left: append([]byte(nil), b...)} }

// Uint reads a number.
func (r *Reader) Uint() uint64 {
	if r.Err() != api.OK {
		return 0
	}
	if e := numberError(r.left); e != api.OK {
		r.fail(e)
		return 0
	}
	end := 1 + int(r.left[0])
	x := uint64(0)
	for _, c := range r.left[1:end] {
		x = x<<8 | uint64(c)
	}
	r.left = r.left[end:]
	return x
}

// numberError tells why no number stands at the front of bytes.
func numberError(b []byte) api.Errno {
	switch {
	case len(b) == 0:
		return api.ErrShort
	case b[0] > widest:
		return api.ErrForm
	case len(b)-1 < int(b[0]):
		return api.ErrShort
	case b[0] > 0 && b[1] == 0:
		return api.ErrForm
	}
	return api.OK
}

// Bytes reads bytes, so many at most.
func (r *Reader) Bytes(most int) []byte {
	n := r.Uint()
	if r.Err() != api.OK {
		return nil
	}
	if most < 0 || n > uint64(most) {
		r.fail(api.ErrBig)
		return nil
	}
	return r.Raw(int(n))
}

// Raw reads so many bytes.
func (r *Reader) Raw(n int) []byte {
	if r.Err() != api.OK {
		return nil
	}
	if n < 0 {
		r.fail(api.ErrArg)
		return nil
	}
	if n > len(r.left) {
		r.fail(api.ErrShort)
		return nil
	}
	return r.take(n)
}

// take takes so many bytes off the front. The cut has no room of its own, so that append must find new memory for what is told.
func (r *Reader) take(n int) []byte {
	b := append(r.left[:0:0], r.left[:n]...)
	r.left = r.left[n:]
	return b
}

// fail lets the bytes go, too: behind an error nobody asks for them.
func (r *Reader) fail(e api.Errno) {
	r.err = e
	r.left = nil
}

// Err is the first error.
func (r *Reader) Err() api.Errno {
	if r == nil {
		return api.ErrArg
	}
	return r.err
}

// End is the first error; ErrLeft, if bytes are left. That one isn't kept: what is left may be read yet.
func (r *Reader) End() api.Errno {
	if e := r.Err(); e != api.OK {
		return e
	}
	if len(r.left) > 0 {
		return api.ErrLeft
	}
	return api.OK
}
