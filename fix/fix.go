// Package fix encodes numbers of a fixed width and strings, and reads them back without ever reading beyond the end (layer 1).
package fix

import "sapwood/api"

// maxText is the greatest length that fits into the two bytes before a string.
const maxText = 1<<16 - 1

// Put16 returns b followed by the lowest sixteen bits of n.
func Put16(b []byte, n int) []byte {
	return append(withRoom(b, 2), byte(n>>8), byte(n))
}

// Put32 returns b followed by the lowest thirty-two bits of n.
func Put32(b []byte, n int) []byte {
	return append(withRoom(b, 4), byte(n>>24), byte(n>>16), byte(n>>8), byte(n))
}

// PutText returns b followed by the length of s in two bytes and its bytes, of which at most 65535 count.
func PutText(b []byte, s string) []byte {
	s = s[:min(len(s), maxText)]
	out := append(withRoom(b, 2+len(s)), byte(len(s)>>8), byte(len(s)))
	return append(out, s...)
}

// withRoom copies b, because appending to b itself could write into memory of the caller behind its length.
func withRoom(b []byte, room int) []byte {
	out := make([]byte, len(b), len(b)+room)
	copy(out, b)
	return out
}

// Reader reads bytes from the left, up to the first error.
type Reader struct {
	data []byte
	at   int
	err  api.Errno
}

// Read returns a reader of a copy of b, so that later changes of b are not seen.
func Read(b []byte) *Reader {
	return &Reader{data: withRoom(b, 0)}
}

// Take8 takes the number in the next byte.
func (r *Reader) Take8() int { return r.take(1) }

// Take16 takes the number in the next two bytes.
func (r *Reader) Take16() int { return r.take(2) }

// Take32 takes the number in the next four bytes.
func (r *Reader) Take32() int { return r.take(4) }

// Text takes a string of at most most bytes, with its length before it.
func (r *Reader) Text(most int) string {
	size := r.Take16()
	if r.Err() != api.OK {
		return ""
	}
	if size > most {
		r.err = api.ErrLong
		return ""
	}
	return string(r.next(size))
}

// Zero takes all remaining bytes, which must be 0.
func (r *Reader) Zero() {
	if r.Err() != api.OK {
		return
	}
	for _, x := range r.data[r.at:] {
		if x != 0 {
			r.err = api.ErrForm
			return
		}
	}
	r.at = len(r.data)
}

// Err returns the first error; that of a nil Reader is ErrShort, so that all its calls answer as they do after an error.
func (r *Reader) Err() api.Errno {
	if r == nil {
		return api.ErrShort
	}
	return r.err
}

// At returns the position, the number of bytes that were taken.
func (r *Reader) At() int {
	if r == nil {
		return 0
	}
	return r.at
}

// take takes a big-endian number of the given width.
func (r *Reader) take(width int) int {
	n := 0
	for _, x := range r.next(width) {
		n = n<<8 | int(x)
	}
	return n
}

// next takes the next size bytes; there are none, and nothing advances, after an error or if fewer are left.
func (r *Reader) next(size int) []byte {
	if r.Err() != api.OK {
		return nil
	}
	if len(r.data)-r.at < size {
		r.err = api.ErrShort
		return nil
	}
	from := r.at
	r.at += size
	return r.data[from:r.at]
}
