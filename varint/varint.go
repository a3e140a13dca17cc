// Package varint is layer 1: see shared/doc/01-varint.md.
package varint

import (
	"bytes"

	"revenant/api"
)

const (
	digitBits = 7              // bits of a number that one byte holds
	more      = 1 << digitBits // added to each byte that another one follows
	mostBytes = 10             // of a number: nine digits hold 63 bits
	lastDigit = 1              // the greatest tenth digit: one bit is left for it
)

// Put returns b followed by the bytes of each number.
func Put(b []byte, l ...uint64) []byte {
	// A copy, because appending to b itself could write beyond its length.
	out := bytes.Clone(b)
	for _, n := range l {
		out = appendNumber(out, n)
	}
	return out
}

// Bytes returns b followed by each string: its length, and its bytes.
func Bytes(b []byte, l ...[]byte) []byte {
	out := bytes.Clone(b)
	for _, s := range l {
		out = appendNumber(out, uint64(len(s)))
		out = append(out, s...)
	}
	return out
}

func appendNumber(b []byte, n uint64) []byte {
	for n >= more {
		b = append(b, byte(n%more+more))
		n /= more
	}
	return append(b, byte(n))
}

// Next returns the number with which b begins, and how many bytes it has.
func Next(b []byte) (uint64, int, api.Errno) {
	var n uint64
	for i, c := range b {
		if !allowed(i, c) {
			return 0, 0, api.ErrForm
		}
		n |= uint64(c%more) << (digitBits * i)
		if c < more {
			return n, i + 1, api.OK
		}
	}
	return 0, 0, api.ErrCut
}

// allowed rejects a tenth byte that would not fit into 64 bits, or that another
// one follows, and a last digit 0, which a shorter encoding leaves out.
func allowed(i int, c byte) bool {
	if i == mostBytes-1 && c > lastDigit {
		return false
	}
	return i == 0 || c != 0
}

// Reader reads numbers and strings from bytes. After its first error it reads
// nothing, so that a caller may read several values and ask once.
type Reader struct {
	left   []byte
	failed api.Errno
}

// Open returns a reader of b.
func Open(b []byte) *Reader {
	// A copy, because the caller may change b while it is being read.
	return &Reader{left: bytes.Clone(b)}
}

// Number reads a number that is at most most.
func (r *Reader) Number(most uint64) uint64 {
	if r.Failed() != api.OK {
		return 0
	}
	n, size, e := Next(r.left)
	if e == api.OK && n > most {
		e = api.ErrLong
	}
	if e != api.OK {
		r.failed = e
		return 0
	}
	r.left = r.left[size:]
	return n
}

// Bytes reads a string of at most most bytes.
func (r *Reader) Bytes(most int) []byte {
	size := r.Number(uint64(max(most, 0)))
	if r.Failed() != api.OK {
		return nil
	}
	if size > uint64(len(r.left)) {
		r.failed = api.ErrCut
		return nil
	}
	// A copy, because a caller that appends to it must not change what is left.
	s := bytes.Clone(r.left[:size])
	r.left = r.left[size:]
	return s
}

// Failed returns the first error of the reader, or OK.
func (r *Reader) Failed() api.Errno {
	if r == nil {
		return api.ErrArg
	}
	return r.failed
}

// End returns the first error, or ErrLong if bytes are left. Asking is no
// reading: that ErrLong does not become an error of the reader.
func (r *Reader) End() api.Errno {
	if e := r.Failed(); e != api.OK {
		return e
	}
	if len(r.left) > 0 {
		return api.ErrLong
	}
	return api.OK
}
