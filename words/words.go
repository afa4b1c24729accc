// Package words reads the words of a text, as the chapters 38 and 54 define them.
package words

import "iter"

// Word is a word with its byte offset.
type Word struct {
	Text string
	At   int
}

func space(c byte) bool { return c == ' ' || c == '\n' }

// All yields the words of a text. A # at the beginning of a word begins a comment.
func All(s string) iter.Seq[Word] {
	return func(yield func(Word) bool) {
		for i := 0; i < len(s); i++ {
			begin := i
			for s[begin] == '#' && i < len(s) && s[i] != '\n' {
				i++
			}
			if s[begin] == '#' {
				continue
			}
			for i < len(s) && !space(s[i]) {
				i++
			}
			if i > begin && !yield(Word{s[begin:i], begin}) {
				return
			}
		}
	}
}

// Reader reads words from left to right.
type Reader struct {
	words []Word
	size  int
}

// Read returns a reader of the words of a text.
func Read(s string) *Reader {
	r := &Reader{size: len(s)}
	for w := range All(s) {
		r.words = append(r.words, w)
	}
	return r
}

// Done reports whether all words have been read.
func (r *Reader) Done() bool { return len(r.words) == 0 }

// At returns the offset of the next word, or the number of bytes of the text if there is none.
func (r *Reader) At() int {
	if r.Done() {
		return r.size
	}
	return r.words[0].At
}

// Take reads the next word, if a function is true for it.
func (r *Reader) Take(is func(string) bool) (string, bool) {
	if r.Done() || !is(r.words[0].Text) {
		return "", false
	}
	s := r.words[0].Text
	r.words = r.words[1:]
	return s, true
}

// Accept reads a word, if it is the next one.
func (r *Reader) Accept(word string) bool {
	_, ok := r.Take(func(s string) bool { return s == word })
	return ok
}
