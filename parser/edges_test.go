package parser_test

import (
	"testing"

	"cordwood/api"
	"cordwood/parser"
)

func TestOrder(t *testing.T) {
	for s, want := range map[string]int{"let a @2 = 1 ; let b @2 = 1 ;": 19, "let a @2 = 1 ; let b = 1 ; let c @1 = 1 ;": 31, "let a @2 = 1 ; let b = 1 ; let c = 1 ; let d @9 = 1 ;": 43} {
		if _, at, e := parser.Parse(s); e != api.ErrOrder || at != want {
			t.Error("P22.1", s, at, e)
		}
	}
}
