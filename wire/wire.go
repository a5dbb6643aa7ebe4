// Package wire is layer 1: integers, texts and lists as bytes. See shared/doc/01-wire.md.
package wire

import (
	"cellplane/api"
)

// The code of an integer is written in groups of seven bits.
const (
	groupBits = 7
	more      = 1 << groupBits // added to every byte of a code but the last one
	maxCode   = 10             // the most bytes of a code: ten groups hold 64 bits
	maxLast   = 1              // the tenth group holds a single bit
)

// Int returns b followed by the bytes of the code of n.
func Int(b []byte, n int) []byte {
	return appendInt(copyWithRoom(b, maxCode), n)
}

// Text returns b followed by the length of s and its bytes.
func Text(b []byte, s string) []byte {
	return append(appendInt(copyWithRoom(b, maxCode+len(s)), len(s)), s...)
}

// Ints returns b followed by the length of l and its elements.
func Ints(b []byte, l []int) []byte {
	out := appendInt(copyWithRoom(b, maxCode+len(l)), len(l))
	for _, n := range l {
		out = appendInt(out, n)
	}
	return out
}

// TakeInt returns the integer that b begins with, and the number of its bytes.
func TakeInt(b []byte) (int, int, api.Errno) {
	code := uint64(0)
	for i, x := range b[:min(len(b), maxCode)] {
		code |= uint64(x%more) << (groupBits * i)
		if x >= more {
			continue
		}
		if isPadding(i, x) || isTooGreat(i, x) {
			return 0, 0, api.ErrCorrupt
		}
		return decode(code), i + 1, api.OK
	}
	if len(b) < maxCode {
		return 0, 0, api.ErrShort
	}
	return 0, 0, api.ErrCorrupt
}

// TakeText returns the text that b begins with, and the number of its bytes.
func TakeText(b []byte) (string, int, api.Errno) {
	length, used, e := takeLength(b)
	if e != api.OK {
		return "", 0, e
	}
	if len(b)-used < length {
		return "", 0, api.ErrShort
	}
	return string(b[used : used+length]), used + length, api.OK
}

// TakeInts returns the list that b begins with, and the number of its bytes.
func TakeInts(b []byte) ([]int, int, api.Errno) {
	length, used, e := takeLength(b)
	if e != api.OK {
		return nil, 0, e
	}
	// An element has at least one byte, so a length that b cannot hold does not make us reserve memory for it.
	l := make([]int, 0, min(length, len(b)-used))
	for range length {
		n, size, e := TakeInt(b[used:])
		if e != api.OK {
			return nil, 0, e
		}
		l = append(l, n)
		used += size
	}
	return l, used, api.OK
}

// takeLength is TakeInt for the length of a text or of a list.
func takeLength(b []byte) (int, int, api.Errno) {
	n, used, e := TakeInt(b)
	switch {
	case e != api.OK:
		return 0, 0, e
	case n < 0:
		return 0, 0, api.ErrCorrupt
	case n > api.MaxBytes:
		return 0, 0, api.ErrLimit
	}
	return n, used, api.OK
}

// copyWithRoom copies b, because the spare capacity of an argument may not be written to.
func copyWithRoom(b []byte, room int) []byte {
	return append(make([]byte, 0, len(b)+room), b...)
}

// appendInt appends the bytes of the code of n to a slice of our own.
func appendInt(own []byte, n int) []byte {
	code := encode(n)
	for code >= more {
		own = append(own, byte(code%more)+more)
		code >>= groupBits
	}
	return append(own, byte(code))
}

// encode returns the code of n. The complement of 2 * n is -2 * n - 1, and it does not overflow for the least integer.
func encode(n int) uint64 {
	if n < 0 {
		return ^(uint64(n) << 1)
	}
	return uint64(n) << 1
}

// decode returns the integer whose code is given: odd codes are those of negative integers.
func decode(code uint64) int {
	if code&1 == 1 {
		return ^int(code >> 1)
	}
	return int(code >> 1)
}

// isPadding reports whether the last byte of a code, at index i, is a group that fewer bytes would do without.
func isPadding(i int, last byte) bool { return i > 0 && last == 0 }

// isTooGreat reports whether the last byte of a code, at index i, has bits beyond the 64 bits of a code.
func isTooGreat(i int, last byte) bool { return i == maxCode-1 && last > maxLast }
