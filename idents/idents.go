// Package idents says which strings are names of the language, as chapter 21 defines them.
package idents

import (
	"cordwood/api"
	"cordwood/syntax"
)

// Name reports whether a string is a name: what a variable can be called.
func Name(s string) bool {
	return syntax.CheckExpr(api.Expr{Kind: api.VarExpr, Name: s}) == api.OK
}
