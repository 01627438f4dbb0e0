// Package wire is layer 1: numbers, texts, digests and flags as bytes, each in just one way, and a reader that takes nothing else.
package wire

import "bevy/api"

// bounds holds, for each of the four lengths of a number (1, 2, 4, 8 bytes), the greatest one that it holds: two bits of each tell the length.
var bounds = [4]int{1<<6 - 1, 1<<14 - 1, 1<<30 - 1, api.MaxNum}

// Writer puts things behind one another.
type Writer struct {
	bytes  []byte
	spoilt bool
}

// New makes a writer of nothing.
func New() *Writer { return &Writer{} }

// Num puts a number.
func (w *Writer) Num(n int) {
	if n < 0 || n > api.MaxNum {
		w.spoil()
		return
	}
	length := 0
	for n > bounds[length] {
		length++
	}
	size := 1 << length
	marked := uint64(length)<<(8*size-2) | uint64(n)
	for i := size - 1; i >= 0; i-- {
		w.put(byte(marked >> (8 * i)))
	}
}

// Text puts a text.
func (w *Writer) Text(s string) {
	if len(s) > api.MaxText {
		w.spoil()
		return
	}
	w.Num(len(s))
	w.put([]byte(s)...)
}

// Hash puts a digest.
func (w *Writer) Hash(h api.Hash) { w.put(h[:]...) }

// Flag puts a flag.
func (w *Writer) Flag(b bool) {
	if b {
		w.put(1)
	} else {
		w.put(0)
	}
}

// End answers all bytes that were put.
func (w *Writer) End() (string, api.Errno) {
	if w == nil || w.spoilt {
		return "", api.ErrArg
	}
	return string(w.bytes), api.OK
}

func (w *Writer) put(b ...byte) {
	if w == nil || w.spoilt {
		return
	}
	w.bytes = append(w.bytes, b...)
}

// spoil lets go of the bytes, too: nobody can ask for them any more.
func (w *Writer) spoil() {
	if w == nil {
		return
	}
	w.bytes = nil
	w.spoilt = true
}

// Reader takes things one behind the other.
type Reader struct {
	left []byte
	err  api.Errno
}

// From makes a reader at the beginning of s.
func From(s string) *Reader { return &Reader{left: []byte(s)} }

// Num takes a number of at most most.
func (r *Reader) Num(most int) int {
	first, ok := r.take(1)
	if !ok {
		return 0
	}
	length := int(first[0] >> 6)
	others, ok := r.take(1<<length - 1)
	if !ok {
		return 0
	}
	n := int(first[0] & 0x3f)
	for _, b := range others {
		n = n<<8 | int(b)
	}
	if length > 0 && n <= bounds[length-1] {
		r.Fail(api.ErrForm)
		return 0
	}
	if n > most {
		r.Fail(api.ErrLong)
		return 0
	}
	return n
}

// Text takes a text of at most most bytes.
func (r *Reader) Text(most int) string {
	size := r.Num(min(most, api.MaxText))
	taken, _ := r.take(size)
	return string(taken)
}

// Hash takes a digest.
func (r *Reader) Hash() api.Hash {
	var h api.Hash
	taken, _ := r.take(len(h))
	copy(h[:], taken)
	return h
}

// Flag takes a flag.
func (r *Reader) Flag() bool {
	taken, ok := r.take(1)
	if !ok {
		return false
	}
	if taken[0] > 1 {
		r.Fail(api.ErrForm)
		return false
	}
	return taken[0] == 1
}

// Fail makes the reader fail with e, unless it has failed already. What was left can't be asked for any more, so it goes.
func (r *Reader) Fail(e api.Errno) {
	if r == nil || r.err != api.OK || e == api.OK {
		return
	}
	r.err = e
	r.left = nil
}

// Err answers the error with which it has failed.
func (r *Reader) Err() api.Errno {
	if r == nil {
		return api.ErrArg
	}
	return r.err
}

// End answers whether all was taken.
func (r *Reader) End() api.Errno {
	if r.Err() != api.OK {
		return r.Err()
	}
	if len(r.left) > 0 {
		return api.ErrTail
	}
	return api.OK
}

// take answers the next n bytes; they are the reader's own, so whoever hands them out copies them.
func (r *Reader) take(n int) ([]byte, bool) {
	if r.Err() != api.OK {
		return nil, false
	}
	if n > len(r.left) {
		r.Fail(api.ErrShort)
		return nil, false
	}
	taken := r.left[:n]
	r.left = r.left[n:]
	return taken, true
}
