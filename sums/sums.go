// Package sums is layer 1: see shared/doc/01-sums.md.
package sums

import "iter"

// The generators, each without its highest power, for which a register has no bit, and that power.
const (
	eightGenerator = 0x07
	eightDegree    = 8
	tenGenerator   = 0x233
	tenDegree      = 10
	longGenerator  = 0x04c11db7
	longDegree     = 32
)

// pattern is laid over a header's check, so that bytes that are all zero have a check that isn't.
const pattern = 0x55

// headerBytes is how many bytes a header has, its check among them.
const headerBytes = 5

// Eight is a header's check.
func Eight(b []byte) byte {
	return byte(remainder(b, 0, eightGenerator, eightDegree)) ^ pattern
}

// Ten is a payload's check.
func Ten(b []byte) uint16 {
	return uint16(remainder(b, 0, tenGenerator, tenDegree))
}

// Long is a frame's check. Its register begins as ones, so that zeros ahead of a text aren't lost on it.
func Long(b []byte) uint32 {
	return ^remainder(b, ^uint32(0), longGenerator, longDegree)
}

// Syndrome is how the check at the end of b differs from that of the bytes ahead of it.
func Syndrome(b []byte) byte {
	if len(b) == 0 {
		return 0
	}
	last := len(b) - 1
	return b[last] ^ Eight(b[:last])
}

// Bit is which single bit of a header, turned over, makes its syndrome that. Each of them makes another one, so the first that is found is the only one.
func Bit(syndrome byte) (int, bool) {
	for n := range headerBytes * 8 {
		h := damaged(n)
		if Syndrome(h[:]) == syndrome {
			return n, true
		}
	}
	return 0, false
}

// damaged is a header whose check would be right, but for one bit.
func damaged(n int) [headerBytes]byte {
	h := [headerBytes]byte{headerBytes - 1: pattern}
	h[n/8] ^= 0x80 >> (n % 8)
	return h
}

// remainder takes the bits of b into a register that holds as many bits as the generator's degree says.
func remainder(b []byte, register, generator uint32, degree uint) uint32 {
	ones := ^uint32(0) >> (32 - degree)
round:
	for bit := range bits(b) {
		high := register >> (degree - 1)
		register = register << 1 & ones
		if bit == high {
			continue round
		}
		register ^= generator
	}
	return register
}

// bits tells the bits of b, each byte's highest one first.
func bits(b []byte) iter.Seq[uint32] {
	return func(yield func(uint32) bool) {
		for _, x := range b {
			for range 8 {
				if !yield(uint32(x >> 7)) {
					return
				}
				x <<= 1
			}
		}
	}
}
