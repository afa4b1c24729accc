// Package names says which strings are names of files, people and machines, and paths of such names, as chapter 7 and chapter 9 define them.
package names

import (
	"strings"

	"cordwood/api"
)

// Char reports whether a byte can occur in a name.
func Char(c byte) bool {
	switch {
	case c >= 'a' && c <= 'z', c >= 'A' && c <= 'Z', c >= '0' && c <= '9':
		return true
	}
	return c == '.' || c == '_' || c == '-'
}

// Chars reports whether a string has from 1 to api.MaxName bytes, all of which can occur in a name.
func Chars(s string) bool {
	for i := range len(s) {
		if !Char(s[i]) {
			return false
		}
	}
	return len(s) >= 1 && len(s) <= api.MaxName
}

// Name reports whether a string is a name.
func Name(s string) bool { return Chars(s) && s != "." && s != ".." }

// Path reports whether a string consists of names that are joined by slashes, and is not too long.
func Path(s string) bool {
	if len(s) > api.MaxPath {
		return false
	}
	for name := range strings.SplitSeq(s, "/") {
		if !Name(name) {
			return false
		}
	}
	return true
}
