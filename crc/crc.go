// Package crc is layer 2, a sum by which spoilt bytes are told: see shared/doc/02-crc.md.
package crc

import "rollcall/api"

const (
	poly = 0xedb88320
	// all has each bit set: the register begins so, and each of its bits is turned at the end.
	all = 0xffffffff
	// tail is how many bytes a sum takes.
	tail = 4
)

// register is the sum of the bytes so far.
type register uint32

// step takes one byte more into the register.
func (r *register) step(b byte) {
	*r = register(Step(uint32(*r), b))
}

// Step tells what c becomes by b.
func Step(c uint32, b byte) uint32 {
	x := c ^ uint32(b)
	for range 8 {
		out := x & 1
		x >>= 1
		if out == 1 {
			x ^= poly
		}
	}
	return x
}

// Sum tells the sum of s.
func Sum(s string) uint32 {
	r := register(all)
	each(s, r.step)
	return uint32(r) ^ all
}

// Seal tells s with its sum behind it.
func Seal(s string) string {
	return s + low(Sum(s))
}

// Open tells the text of which Seal tells s.
func Open(s string) (string, api.Errno) {
	if len(s) < tail {
		return "", api.ErrCut
	}
	end := len(s) - tail
	if low(Sum(s[:end])) != s[end:] {
		return "", api.ErrSum
	}
	return s[:end], api.OK
}

// each hands the bytes of s to step, one behind the other.
func each(s string, step func(byte)) {
	for i := range len(s) {
		step(s[i])
	}
}

// low tells the bytes of n, the lowest one first.
func low(n uint32) string {
	return string([]byte{byte(n), byte(n >> 8), byte(n >> 16), byte(n >> 24)})
}
