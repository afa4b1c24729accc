// Package codec implements numbers and texts as bytes. It is layer 1: see shared/doc/01-codec.md.
package codec

import (
	"iter"
	"strings"

	"cordwood/api"
)

// longest is the number of bytes of the encoding of api.MaxInt.
const longest = 6

// digits yields the bytes of the encoding of a number that is not negative.
func digits(n int) iter.Seq[byte] {
	return func(yield func(byte) bool) {
		for ; n >= 128; n /= 128 {
			if !yield(byte(n%128 + 128)) {
				return
			}
		}
		yield(byte(n))
	}
}

// Size returns the number of bytes of the encoding of a number.
func Size(n int) int {
	s, _ := PutInt(n)
	return len(s)
}

// PutInt returns the encoding of a number.
func PutInt(n int) (string, api.Errno) {
	if n < 0 || n > api.MaxInt {
		return "", api.ErrRange
	}
	var b []byte
	for d := range digits(n) {
		b = append(b, d)
	}
	return string(b), api.OK
}

// GetInt returns the number at the beginning of a string, and its number of bytes.
func GetInt(s string) (int, int, api.Errno) {
	n := 0
	for i := range longest {
		if i >= len(s) {
			return 0, 0, api.ErrShort
		}
		digit := int(s[i])
		n += digit % 128 << (7 * i)
		if digit < 128 {
			return checked(n, i+1)
		}
	}
	return 0, 0, api.ErrDecode
}

// checked refuses digits that are not the encoding of a number: it has no zero digit at its end.
func checked(n, size int) (int, int, api.Errno) {
	if n > api.MaxInt || Size(n) != size {
		return 0, 0, api.ErrDecode
	}
	return n, size, api.OK
}

// PutText returns the encoding of a text.
func PutText(s string) (string, api.Errno) {
	if len(s) > api.MaxData {
		return "", api.ErrLimit
	}
	size, _ := PutInt(len(s))
	return size + s, api.OK
}

// GetText returns the text at the beginning of a string, and its number of bytes.
func GetText(s string) (string, int, api.Errno) {
	size, at, e := GetInt(s)
	if e != api.OK {
		return "", 0, e
	}
	if size > api.MaxData {
		return "", 0, api.ErrDecode
	}
	if len(s)-at < size {
		return "", 0, api.ErrShort
	}
	return s[at : at+size], at + size, api.OK
}

// PutTexts returns the encoding of a list of texts.
func PutTexts(l []string) (string, api.Errno) {
	if len(l) > api.MaxList {
		return "", api.ErrLimit
	}
	var b strings.Builder
	count, _ := PutInt(len(l))
	b.WriteString(count)
	for _, s := range l {
		text, e := PutText(s)
		if e != api.OK {
			return "", e
		}
		b.WriteString(text)
	}
	return b.String(), api.OK
}

// repeat calls a function for each of some elements at the beginning of a string, and returns them and their number of bytes.
func repeat[T any](s string, count int, get func(string) (T, int, api.Errno)) ([]T, int, api.Errno) {
	var l []T
	at := 0
	for range count {
		x, size, e := get(s[at:])
		if e != api.OK {
			return nil, 0, e
		}
		l = append(l, x)
		at += size
	}
	return l, at, api.OK
}

// GetTexts returns the list of texts at the beginning of a string, and its number of bytes.
func GetTexts(s string) ([]string, int, api.Errno) {
	count, at, e := GetInt(s)
	if e != api.OK {
		return nil, 0, e
	}
	if count > api.MaxList {
		return nil, 0, api.ErrDecode
	}
	l, size, e := repeat(s[at:], count, GetText)
	if e != api.OK {
		return nil, 0, e
	}
	return l, at + size, api.OK
}
