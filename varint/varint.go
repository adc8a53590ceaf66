// Package varint is layer 1, numbers as few bytes: see shared/doc/01-varint.md.
package varint

import "rollcall/api"

const (
	// more is the bit of a byte that tells that there is one behind it.
	more = 0x80
	// tenth is where, from the first byte on, the tenth one's bits stand.
	tenth = 63
)

// Put tells n in sevens of bits, the lowest ones first.
func Put(n uint64) string {
	var b []byte
	for ; n >= more; n >>= 7 {
		b = append(b, byte(n)|more)
	}
	return string(append(b, byte(n)))
}

// Get tells the number that stands in s from at on, and the place behind it.
func Get(s string, at int) (uint64, int, api.Errno) {
	if at < 0 || at > len(s) {
		return 0, 0, api.ErrArg
	}
	var n uint64
	var shift uint
	place := at
next:
	if place == len(s) {
		return 0, 0, api.ErrCut
	}
	b := s[place]
	// A tenth byte above 1 has bits for which 64 are too few, or one more byte behind it: no eleventh is ever looked at.
	if shift == tenth && b > 1 {
		return 0, 0, api.ErrForm
	}
	n |= uint64(b&^more) << shift
	shift += 7
	place++
	if b&more != 0 {
		goto next
	}
	// A last byte of no bits could have been left out.
	if b == 0 && place != at+1 {
		return 0, 0, api.ErrForm
	}
	return n, place, api.OK
}

// Size tells how many bytes Put makes of n.
func Size(n uint64) int {
	size := 1
	for ; n >= more; n >>= 7 {
		size++
	}
	return size
}

// Text tells s behind its length.
func Text(s string) string {
	return Put(uint64(len(s))) + s
}

// Take tells the text, of at most most bytes, that stands in s from at on, and the place behind it.
func Take(s string, at int, most int) (string, int, api.Errno) {
	length, from, err := Get(s, at)
	if err != api.OK {
		return "", 0, err
	}
	if most < 0 || length > uint64(most) {
		return "", 0, api.ErrForm
	}
	// The length is held against what is left, as the place behind the text may pass an int.
	if length > uint64(len(s)-from) {
		return "", 0, api.ErrCut
	}
	to := from + int(length)
	return s[from:to], to, api.OK
}
