// Package equal compares values of package api that contain slices.
package equal

import (
	"slices"

	"cordwood/api"
)

// Expr reports whether two expressions are equal.
func Expr(a, b api.Expr) bool {
	same := a.Kind == b.Kind && a.Name == b.Name && a.More == b.More && a.Int == b.Int && a.Den == b.Den
	return same && slices.EqualFunc(a.Sub, b.Sub, Expr)
}

// Decl reports whether two declarations are equal.
func Decl(a, b api.Decl) bool {
	same := a.Id == b.Id && a.Kind == b.Kind && a.Public == b.Public && a.Doubt == b.Doubt
	return same && slices.Equal(a.Names, b.Names) && Expr(a.Body, b.Body)
}

// Module reports whether two modules are equal.
func Module(a, b api.Module) bool {
	return a.Label == b.Label && slices.Equal(a.Uses, b.Uses) && slices.EqualFunc(a.Decls, b.Decls, Decl)
}

// Type reports whether two types are equal.
func Type(a, b api.Type) bool {
	return a.Kind == b.Kind && a.Var == b.Var && slices.EqualFunc(a.Sub, b.Sub, Type)
}

// Action reports whether two actions are equal.
func Action(a, b api.Action) bool {
	return a.Kind == b.Kind && a.Label == b.Label && slices.Equal(a.Inputs, b.Inputs)
}

// Ready reports whether two Readys are equal.
func Ready(a, b api.Ready) bool { return Action(a.Action, b.Action) && slices.Equal(a.Files, b.Files) }

// Output reports whether two outputs are equal.
func Output(a, b api.Output) bool {
	return a.Failed == b.Failed && a.Message == b.Message && slices.Equal(a.Files, b.Files)
}
