package codec_test

import (
	"slices"
	"strings"
	"testing"

	"cordwood/api"
	"cordwood/codec"
)

var numbers = []int{0, 1, 127, 128, 300, 16383, 16384, 1<<21 - 1, 1 << 21, 1<<35 - 1, 1 << 35, 1<<40 - 1, 1 << 40}

func TestExamples(t *testing.T) {
	if s, e := codec.PutInt(300); s != "\xac\x02" || e != api.OK {
		t.Errorf("P1.1: %x %d", s, e)
	}
	if s, e := codec.PutText("ab"); s != "\x02ab" || e != api.OK {
		t.Errorf("P1.1: %x %d", s, e)
	}
	if s, e := codec.PutTexts([]string{"", "ab"}); s != "\x02\x00\x02ab" || e != api.OK {
		t.Errorf("P1.1: %x %d", s, e)
	}
	if n, m, e := codec.GetInt("\x80\x00"); n != 0 || m != 0 || e != api.ErrDecode {
		t.Error("P1.1", n, m, e)
	}
}

func TestNumbers(t *testing.T) {
	last := 0
	for _, n := range numbers {
		s, e := codec.PutInt(n)
		if e != api.OK || codec.Size(n) != len(s) || len(s) < last {
			t.Error("P1.4", n, len(s), e)
		}
		last = len(s)
		if m, k, e := codec.GetInt(s + "\xff"); m != n || k != len(s) || e != api.OK {
			t.Error("P1.2", n, m, k, e)
		}
		for k := range s {
			if m, size, e := codec.GetInt(s[:k]); m != 0 || size != 0 || e != api.ErrShort {
				t.Error("P1.5", n, k, e)
			}
		}
	}
	for _, n := range []int{-1, 1<<40 + 1, 1<<63 - 1, -1 << 63} {
		if s, e := codec.PutInt(n); s != "" || e != api.ErrRange || codec.Size(n) != 0 {
			t.Error("P1.1", n, s, e)
		}
	}
	for _, s := range []string{"\x80\x00", "\x80\x80\x80\x80\x80\x21", "\x80\x80\x80\x80\x80\x80", "\xff\xff\xff\xff\xff\xff\xff"} {
		if n, m, e := codec.GetInt(s); n != 0 || m != 0 || e != api.ErrDecode {
			t.Errorf("P1.3: %x %d", s, e)
		}
	}
}

func TestCanonical(t *testing.T) {
	for a := range 256 {
		for b := range 256 {
			s := string([]byte{byte(a), byte(b), 1})
			n, m, e := codec.GetInt(s)
			if e != api.OK {
				continue
			}
			if back, _ := codec.PutInt(n); back != s[:m] {
				t.Fatalf("P1.3: %x", s)
			}
		}
	}
}

func TestLists(t *testing.T) {
	for _, l := range [][]string{nil, {""}, {"a", "", "\x00\xff"}, {strings.Repeat("x", 300)}, make([]string, 1000)} {
		s, e := codec.PutTexts(l)
		if e != api.OK {
			t.Error("P1.1", e)
		}
		if m, n, e := codec.GetTexts(s + "rest"); !slices.Equal(m, l) || n != len(s) || e != api.OK {
			t.Error("P1.2", n, e)
		}
		if m, n, e := codec.GetTexts(s[:len(s)-1]); len(m) != 0 || n != 0 || e != api.ErrShort {
			t.Error("P1.5", n, e)
		}
	}
	long := strings.Repeat("a", 65537)
	if s, e := codec.PutText(long); s != "" || e != api.ErrLimit {
		t.Error("P1.1", e)
	}
	if s, e := codec.PutTexts([]string{"", long}); s != "" || e != api.ErrLimit {
		t.Error("P1.1", e)
	}
	if s, e := codec.PutTexts(make([]string, 1001)); s != "" || e != api.ErrLimit {
		t.Error("P1.1", e)
	}
	for s, want := range map[string]api.Errno{"": api.ErrShort, "\x02a": api.ErrShort, "\x81\x80\x04": api.ErrDecode, "\x80\x80\x04": api.ErrShort, "\x81\x00": api.ErrDecode} {
		if x, n, e := codec.GetText(s); x != "" || n != 0 || e != want {
			t.Errorf("P1.1: %x %d", s, e)
		}
	}
	for s, want := range map[string]api.Errno{"\xe9\x07": api.ErrDecode, "\x01": api.ErrShort, "\x02\x00\x81\x80\x04": api.ErrDecode} {
		if l, n, e := codec.GetTexts(s); len(l) != 0 || n != 0 || e != want {
			t.Errorf("P1.1: %x %d", s, e)
		}
	}
}
