package console

import (
	"strconv"
	"strings"

	"cordwood/api"
)

const hexes = "0123456789abcdef"

// quote returns a quoted text.
func quote(s string) string {
	var b strings.Builder
	b.WriteByte('"')
	for i := range len(s) {
		switch c := s[i]; {
		case c == '"' || c == '\\':
			b.WriteByte('\\')
			b.WriteByte(c)
		case c == '\n':
			b.WriteString(`\n`)
		case c < 32 || c > 126:
			b.WriteString(`\x`)
			b.WriteByte(hexes[c>>4])
			b.WriteByte(hexes[c&15])
		default:
			b.WriteByte(c)
		}
	}
	b.WriteByte('"')
	return b.String()
}

// unescape returns the byte for which an escape stands, and the number of bytes of the escape; 0 if it is none.
func unescape(s string) (byte, int) {
	if len(s) < 2 {
		return 0, 0
	}
	switch s[1] {
	case '"', '\\':
		return s[1], 2
	case 'n':
		return '\n', 2
	case 'x':
		if len(s) < 4 {
			return 0, 0
		}
		high, low := strings.IndexByte(hexes, s[2]), strings.IndexByte(hexes, s[3])
		if high >= 0 && low >= 0 {
			return byte(high<<4 | low), 4
		}
	}
	return 0, 0
}

// unquote returns the text of a quoted text.
func unquote(s string) (string, bool) {
	if len(s) < 2 || s[0] != '"' || s[len(s)-1] != '"' {
		return "", false
	}
	var b strings.Builder
	for s = s[1 : len(s)-1]; s != ""; {
		c, n := s[0], 1
		if c == '\\' {
			c, n = unescape(s)
		}
		if n == 0 {
			return "", false
		}
		b.WriteByte(c)
		s = s[n:]
	}
	return b.String(), true
}

// reader reads the words of a line, and remembers whether one of them is not as it has to be.
type reader struct {
	words []string
	bad   bool
}

// length returns the number of bytes of the word at the beginning of a string, where spaces in a quoted text do not end it.
func length(s string) int {
	inText := false
	for i := 0; i < len(s); i++ {
		switch s[i] {
		case '"':
			inText = !inText
		case '\\':
			i++
		case ' ':
			if !inText {
				return i
			}
		}
	}
	return len(s)
}

// split returns a reader of the words of a line.
func split(line string) *reader {
	r := &reader{}
	for {
		n := length(line)
		r.words = append(r.words, line[:n])
		if n == len(line) {
			return r
		}
		line = line[n+1:]
	}
}

// next reads a word.
func (r *reader) next() string {
	if len(r.words) == 0 {
		r.bad = true
		return ""
	}
	s := r.words[0]
	r.words = r.words[1:]
	return s
}

// quoted reports whether the next word is a quoted text.
func (r *reader) quoted() bool { return len(r.words) > 0 && strings.HasPrefix(r.words[0], `"`) }

func (r *reader) text() string {
	s, ok := unquote(r.next())
	r.bad = r.bad || !ok
	return s
}

func (r *reader) number() int {
	n, err := strconv.Atoi(r.next())
	r.bad = r.bad || err != nil
	return n
}

// files reads files up to the end of the line.
func (r *reader) files() []api.File {
	var l []api.File
	for len(r.words) > 0 && !r.bad {
		l = append(l, api.File{Path: r.text(), Data: r.text()})
	}
	return l
}
