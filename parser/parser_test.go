package parser_test

import (
	"fmt"
	"math/rand"
	"strings"
	"testing"

	"cordwood/api"
	"cordwood/lexer"
	"cordwood/parser"
	"cordwood/syntax"
)

func same(a, b any) bool { return fmt.Sprintf("%v", a) == fmt.Sprintf("%v", b) }

var kinds = strings.Split("-5;true;false;nil;a;m.x;(fun x -> a);(a b);(let x = a in b);(if a then b else c);(a + b);(a - b);(a * b);(a = b);(a < b);(a :: b);(case a of nil -> b | x :: y -> c);(chance 1 of 4);(conflict a || b || c)", ";")

// random returns the text of a random expression.
func random(r *rand.Rand, depth int) string {
	s := kinds[r.Intn(len(kinds))]
	if depth == 0 {
		s = kinds[r.Intn(6)]
	}
	l := strings.Fields(strings.NewReplacer("(", "( ", ")", " )").Replace(s))
	for i, w := range l {
		if (w == "a" || w == "b" || w == "c") && depth > 0 {
			l[i] = random(r, depth-1)
		}
	}
	return strings.Join(l, " ")
}

func TestExpr(t *testing.T) {
	r := rand.New(rand.NewSource(1))
	for range 400 {
		l, _, _ := lexer.Scan(random(r, 3))
		e, n, err := parser.Expr(l)
		if err != api.OK || n != len(l) {
			t.Fatal("P22.1", n, err)
		}
		s, _ := syntax.Expr(e)
		m, _, _ := lexer.Scan(s)
		if x, k, err := parser.Expr(append(m, api.Token{Kind: 77})); err != api.OK || k != len(m) || !same(x, e) {
			t.Error("P22.2, P22.3", s)
		}
		for k := range len(l) {
			if x, at, err := parser.Expr(l[:k]); err != api.ErrSyntax || at != k || x.Kind != 0 {
				// Only a name with its dot has a beginning that is an expression.
				if !(k == 1 && l[0].Kind == api.WordToken) {
					t.Error("P22.3", s, k, at, err)
				}
			}
		}
		if len(l) > 1 {
			k := r.Intn(len(l))
			bad := append(append([]api.Token{}, l[:k]...), api.Token{Kind: api.SignToken, Text: ";"})
			bad = append(bad, l[k:]...)
			x, at, err := parser.Expr(bad)
			if k == 1 && l[0].Kind == api.WordToken {
				continue
			}
			if err != api.ErrSyntax || at != k || x.Kind != 0 {
				t.Error("P22.4", s, k, at, err)
			}
		}
	}
}

func TestFit(t *testing.T) {
	for s, want := range map[string]int{
		"": 0, "(": 1, ")": 0, "if": 0, "(fun": 2, "(fun if": 2, "(fun x x": 3, "(let x in": 3, "(x . 5": 3, "x .": 2, "x . (": 2, "(x": 2, "(x + +": 3, "(x )": 2, "(x y z": 3, "(nil of": 2, "(case x of nil -> 1 | nil": 8, "(case x of 1": 4, "(chance x": 2, "(chance 1 of true": 4, "(conflict a | b": 3, "(if a then b in": 5, "(fun x -> x x": 5, "a/b": 0, "@": 0, "(a || b)": 2, "(true . x": 2,
	} {
		l, _, _ := lexer.Scan(s)
		if e, at, err := parser.Expr(l); at != want || err != api.ErrSyntax || e.Kind != 0 {
			t.Error("P22.1", s, at, err)
		}
	}
	tok := func(kind int, text string) api.Token { return api.Token{Kind: kind, Text: text, At: -5} }
	for k, x := range []struct {
		l []api.Token
		n int
		e api.Errno
	}{
		{[]api.Token{tok(3, "01")}, 0, api.ErrSyntax}, {[]api.Token{tok(3, "x")}, 0, api.ErrSyntax}, {[]api.Token{tok(1, "5")}, 0, api.ErrSyntax}, {[]api.Token{tok(2, "a")}, 0, api.ErrSyntax}, {[]api.Token{tok(1, "a")}, 1, api.OK}, {[]api.Token{tok(1, "("), tok(1, "a")}, 0, api.ErrSyntax},
		{[]api.Token{tok(4, "("), tok(4, "fun"), tok(1, "x")}, 1, api.ErrSyntax}, {[]api.Token{tok(4, "true")}, 0, api.ErrSyntax}, {[]api.Token{tok(1, "a"), tok(1, ".")}, 1, api.OK},
	} {
		if _, n, e := parser.Expr(x.l); n != x.n || e != x.e {
			t.Error("P22.1", k, n, e)
		}
	}
	deep, _, _ := lexer.Scan(strings.Repeat("(fun x -> ", 40) + "1" + strings.Repeat(")", 40))
	if e, n, err := parser.Expr(deep); n != 0 || err != api.ErrLimit || e.Kind != 0 {
		t.Error("P22.1", n, err)
	}
	l, _, _ := lexer.Scan("(case a of nil -> b | x :: x -> c)")
	if _, n, err := parser.Expr(l); n != 0 || err != api.ErrExists {
		t.Error("P22.1", n, err)
	}
	if _, n, err := parser.Expr(deep[:160]); n != 160 || err != api.ErrSyntax {
		t.Error("P22.1: depth does not matter for what fits", n, err)
	}
}

func TestParse(t *testing.T) {
	for s, want := range map[string]int{
		"let f = (x + 1 ;": 15, "let f = (x": 10, "use a let": 6, "use": 3, "use ; ": 4, "use a ; let a = 1 ; use b ;": 20, "pub conflict let a = 1 ;": 4, "conflict pub pub": 13, "let a || b = 1 ;": 11, "let nil = 1 ;": 8, "let a || nil || nil = 1": 23, "let a @0 = 1 ;": 7, "let a @ x": 8, "let if = 1 ;": 4, "foo": 0, "let a = 1 ; ;": 12, "let a = 1 let": 10,
	} {
		if f, at, e := parser.Parse(s); at != want || e != api.ErrSyntax || !same(f, api.Source{}) {
			t.Errorf("P22.1: %q %d %d", s, at, e)
		}
		l, _, _ := lexer.Scan(s)
		if f, e := parser.Source(l); e != api.ErrSyntax || !same(f, api.Source{}) {
			t.Errorf("P22.1: %q %d", s, e)
		}
	}
	for s, want := range map[string]struct {
		at int
		e  api.Errno
	}{
		"let a @2 = 1 ; let b @1 = 2 ;": {19, api.ErrOrder}, "use b ; use a ; let a @2 = 1 ; let b @1 = 2 ;": {0, api.ErrOrder}, "let a = 1 ; conflict pub let b || nil || nil @1 = 2 ;": {29, api.ErrOrder}, "let a @-1 = 1 ;": {0, api.ErrRange}, "let a = 1 ; let a = 2 ;": {0, api.ErrExists}, "let a @2 = (chance 3 of 2) ; let b @1 = 2 ;": {0, api.ErrRange},
		"a ?": {2, api.ErrSyntax}, "? a": {0, api.ErrSyntax}, strings.Repeat(" ", 65537): {0, api.ErrLimit}, "let a @1000000 = 1 ;": {0, api.ErrRange}, "use abcdefghijklmnopqrstu ;": {4, api.ErrSyntax},
	} {
		if f, at, e := parser.Parse(s); at != want.at || e != want.e || !same(f, api.Source{}) {
			t.Errorf("P22.1: %.60q %d %d", s, at, e)
		}
	}
	if f, at, e := parser.Parse("use if ; use m/n ;"); at != 0 || e != api.OK || len(f.Uses) != 2 {
		t.Error("P22.1", f, at, e)
	}
	if f, e := parser.Source([]api.Token{{Kind: 1, Text: "use"}, {Kind: 1, Text: "a/b"}, {Kind: 4, Text: ";"}}); e != api.OK || f.Uses[0] != "a/b" {
		t.Error("P22.1: the kind and the text decide", e)
	}
}

func TestRoundTrip(t *testing.T) {
	r := rand.New(rand.NewSource(2))
	for range 200 {
		s := ""
		for i := range r.Intn(3) {
			s += fmt.Sprintf("use m%d/a ; ", i)
		}
		for i := range r.Intn(4) {
			s += []string{"", "conflict "}[r.Intn(2)] + []string{"", "pub "}[r.Intn(2)] + []string{"let", "test", "flaky"}[r.Intn(3)]
			s += fmt.Sprintf(" %s @%d = %s ; ", []string{fmt.Sprint("f", i), "a || nil || b", "nil || nil || nil"}[r.Intn(3)], i+1, random(r, 2))
		}
		f, at, e := parser.Parse(s)
		if e != api.OK || at != 0 || syntax.CheckSource(f) != api.OK {
			t.Fatal("P22.2", s, at, e)
		}
		text, _ := syntax.Text(f)
		g, _, e := parser.Parse(strings.ReplaceAll(text, " ", "\n# comment\n  "))
		if e != api.OK || !same(f, g) {
			t.Error("P22.2", text, e)
		}
	}
}
