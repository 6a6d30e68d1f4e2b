// Package num is layer 1: numbers and texts as bytes. See shared/doc/01-num.md.
package num

import (
	"iter"
	"strings"

	"nautilus/api"
)

const (
	widest      = 8     // bytes of the greatest number
	lengthWidth = 2     // bytes of a text's length
	greatestFit = 65536 // bytes that texts are fitted to
)

// Put is a number as bytes, of that width.
func Put(n uint64, width int) (string, api.Errno) {
	if !isWidth(width) {
		return "", api.ErrArg
	}
	out := make([]byte, width)
	fits := true
bytes:
	for place, b := range bytesOf(n) {
		switch {
		case place < width:
			out[place] = b
		case b != 0:
			fits = false
			break bytes
		}
	}
	if !fits {
		return "", api.ErrArg
	}
	return string(out), api.OK
}

// Take is the number that so many bytes from at on are.
func Take(s string, at int, width int) (uint64, api.Errno) {
	if !isWidth(width) || !has(s, at, width) {
		return 0, api.ErrArg
	}
	n := uint64(0)
bytes:
	for place, b := range bytesFrom(s, at) {
		if place == width {
			break bytes
		}
		n |= uint64(b) << (8 * place)
	}
	return n, api.OK
}

// Text is a text behind its length. Put refuses the length of a text that is too long.
func Text(s string) (string, api.Errno) {
	length, err := Put(uint64(len(s)), lengthWidth)
	if err != api.OK {
		return "", err
	}
	return length + s, api.OK
}

// TakeText is the text whose bytes stand from at on, and the place behind it.
func TakeText(s string, at int) (string, int, api.Errno) {
	length, err := Take(s, at, lengthWidth)
	if err != api.OK {
		return "", 0, err
	}
	from := at + lengthWidth
	if !has(s, from, int(length)) {
		return "", 0, api.ErrArg
	}
	behind := from + int(length)
	// A clone, for a piece of s would share its memory, and keep all of it.
	return strings.Clone(s[from:behind]), behind, api.OK
}

// Fit is a text with bytes 0 behind it, up to that size.
func Fit(s string, size int) (string, api.Errno) {
	if len(s) > size || size > greatestFit {
		return "", api.ErrArg
	}
	out := make([]byte, size)
	copy(out, s)
	return string(out), api.OK
}

// Bare tells whether all bytes from there on are 0.
func Bare(s string, from int) bool {
	for at := max(from, 0); at < len(s); at++ {
		if s[at] != 0 {
			return false
		}
	}
	return true
}

func isWidth(width int) bool {
	return width >= 1 && width <= widest
}

// has tells whether there are so many bytes from at on. It takes at from the length, for a sum could wrap round.
func has(s string, at int, count int) bool {
	return at >= 0 && len(s)-at >= count
}

// bytesOf goes through all bytes that a number may have, the lowest one first, each with its place.
func bytesOf(n uint64) iter.Seq2[int, byte] {
	return func(yield func(int, byte) bool) {
		for place := range widest {
			if !yield(place, byte(n>>(8*place))) {
				return
			}
		}
	}
}

// bytesFrom goes through the bytes of s from at on (0 or above), each with its place behind at.
func bytesFrom(s string, at int) iter.Seq2[int, byte] {
	return func(yield func(int, byte) bool) {
		for i := at; i < len(s); i++ {
			if !yield(i-at, s[i]) {
				return
			}
		}
	}
}
