package lexer_test

import (
	"fmt"
	"math/rand"
	"strings"
	"testing"

	"cordwood/api"
	"cordwood/lexer"
)

func tok(kind int, text string, at int) api.Token { return api.Token{Kind: kind, Text: text, At: at} }

func texts(l []api.Token) string {
	var b strings.Builder
	for _, t := range l {
		fmt.Fprint(&b, t.Kind, " ", t.Text, "\n")
	}
	return b.String()
}

func TestExample(t *testing.T) {
	want := []api.Token{tok(4, "(", 0), tok(1, "a", 1), tok(4, "->", 2), tok(2, "b/c", 4), tok(4, ")", 7), tok(3, "-1", 9)}
	if l, at, e := lexer.Scan("(a->b/c) -1"); fmt.Sprint(l) != fmt.Sprint(want) || at != 0 || e != api.OK {
		t.Error("P20.1", l, at, e)
	}
	if l, at, e := lexer.Scan("a 007"); len(l) != 0 || at != 2 || e != api.ErrSyntax {
		t.Error("P20.1", l, at, e)
	}
}

func TestClasses(t *testing.T) {
	a20, a24 := strings.Repeat("a", 20), strings.Repeat("a", 24)
	for s, want := range map[string][2]bool{
		"a": {true, true}, "a0": {true, true}, "": {}, "0a": {}, "A": {}, "a_b": {}, "é": {}, "a\xff": {}, a20: {true, true}, a20 + "b": {true, false}, a24: {true, false}, a24 + "a": {},
		"a/b": {false, true}, "a/": {}, "/a": {}, "a//b": {}, "a/0": {}, a20 + "/" + a20 + "/" + a20 + "/" + a20 + "/abcdef": {false, true}, a20 + "/" + a20 + "/" + a20 + "/" + a20 + "/abcdefg": {}, "fun/let": {false, true},
	} {
		if lexer.Word(s) != want[0] || lexer.Label(s) != want[1] {
			t.Error("P20.1", s)
		}
	}
	for k, x := range []struct {
		t api.Token
		e api.Errno
	}{
		{tok(0, "a", -1), api.ErrKind}, {tok(5, "a", 0), api.ErrKind}, {tok(1, "a/b", -1), api.ErrSyntax}, {tok(1, "a", -1), api.ErrRange}, {tok(1, "a", 1<<62), api.OK}, {tok(2, "a", 0), api.ErrSyntax}, {tok(2, "a/b", 0), api.OK},
		{tok(3, "0", 0), api.OK}, {tok(3, "-0", 0), api.ErrSyntax}, {tok(3, "01", 0), api.ErrSyntax}, {tok(3, "+1", 0), api.ErrSyntax}, {tok(3, "", 0), api.ErrSyntax}, {tok(3, "-", 0), api.ErrSyntax}, {tok(3, "--1", 0), api.ErrSyntax}, {tok(3, "999999999", 0), api.OK}, {tok(3, "-999999999", 0), api.OK}, {tok(3, "1000000000", 0), api.ErrSyntax},
		{tok(4, "", 0), api.ErrSyntax}, {tok(4, ">", 0), api.ErrSyntax}, {tok(4, ":", 0), api.ErrSyntax}, {tok(4, "((", 0), api.ErrSyntax}, {tok(4, "::", 0), api.OK}, {tok(4, "|", 0), api.OK},
	} {
		if e := lexer.Check(x.t); e != x.e {
			t.Error("P20.1: Check", k, e)
		}
	}
}

func TestScan(t *testing.T) {
	for s, want := range map[string]string{
		"": "", "# x\n": "", "#": "", "a#b\nc": "1 a\n1 c\n", "-": "4 -\n", "- 1": "4 -\n3 1\n", "--1": "4 -\n3 -1\n", "a-1": "1 a\n3 -1\n", "|||": "4 ||\n4 |\n", ":::": "", "->-": "4 ->\n4 -\n", "x.y@7": "1 x\n4 .\n1 y\n4 @\n3 7\n", "(1)": "4 (\n3 1\n4 )\n", "a/b/c": "2 a/b/c\n",
	} {
		l, at, e := lexer.Scan(s)
		if s == ":::" {
			if at != 2 || e != api.ErrSyntax {
				t.Error("P20.1", at, e)
			}
		} else if texts(l) != want || at != 0 || e != api.OK {
			t.Errorf("P20.1: %q %q %d", s, texts(l), e)
		}
	}
	for s, want := range map[string]int{"a A": 2, "\t": 0, "a/ b": 0, "b a//c": 2, "1a": 0, "x 1/2": 2, "a >": 2, "?": 0, "a é": 2, strings.Repeat("a", 25): 0, "a " + strings.Repeat("1", 10): 2, "-0": 0, " -01": 1} {
		if l, at, e := lexer.Scan(s); len(l) != 0 || at != want || e != api.ErrSyntax {
			t.Errorf("P20.1: %q %d %d", s, at, e)
		}
		if _, _, e := lexer.Scan(s[:want]); e != api.OK {
			t.Errorf("P20.4: %q", s)
		}
	}
	if l, at, e := lexer.Scan(strings.Repeat(" ", 65537)); len(l) != 0 || at != 0 || e != api.ErrLimit {
		t.Error("P20.1", at, e)
	}
}

func TestRandom(t *testing.T) {
	r := rand.New(rand.NewSource(1))
	all := []api.Token{tok(1, "a", 0), tok(1, "b1", 0), tok(2, "a/b", 0), tok(3, "0", 0), tok(3, "-5", 0), tok(3, "17", 0)}
	for _, s := range strings.Fields("( ) -> = + - * < :: || | . ; @") {
		all = append(all, tok(4, s, 0))
	}
	for range 300 {
		var l []api.Token
		for range r.Intn(10) {
			l = append(l, all[r.Intn(len(all))])
		}
		s, e := lexer.Print(l)
		m, _, f := lexer.Scan(s)
		if e != api.OK || f != api.OK || texts(l) != texts(m) {
			t.Fatal("P20.2", s, e, f)
		}
		wide := strings.ReplaceAll(s, " ", []string{"  ", "\n", " # c ( \n", "\n#\n"}[r.Intn(4)])
		w, _, f := lexer.Scan("#\n" + wide)
		if f != api.OK || texts(w) != texts(l) {
			t.Error("P20.5", f)
		}
		at := 0
		for _, x := range w {
			src := "#\n" + wide
			if src[x.At:x.At+len(x.Text)] != x.Text || x.At < at {
				t.Error("P20.3")
			}
			if rest, _, e := lexer.Scan(src[at:x.At]); e != api.OK || len(rest) != 0 {
				t.Error("P20.3")
			}
			at = x.At + len(x.Text)
		}
	}
}

func TestPrint(t *testing.T) {
	if s, e := lexer.Print([]api.Token{tok(1, "a", 0), tok(9, "", -1), tok(1, "", 0)}); s != "" || e != api.ErrKind {
		t.Error("P20.1: Print", e)
	}
	l := make([]api.Token, 32768)
	for i := range l {
		l[i] = tok(1, "a", 0)
	}
	if s, e := lexer.Print(l); len(s) != 65535 || e != api.OK {
		t.Error("P20.1: Print", e)
	}
	l[0].Text = "ab"
	if s, e := lexer.Print(l); len(s) != 65536 || e != api.OK {
		t.Error("P20.1: Print", e)
	}
	l[1].Text = "ab"
	if s, e := lexer.Print(l); s != "" || e != api.ErrLimit {
		t.Error("P20.1: Print", e)
	}
}
