package unify_test

import (
	"fmt"
	"testing"

	"cordwood/api"
	"cordwood/unify"
)

func TestEquate(t *testing.T) {
	a, b, c := unify.Var(2), unify.Var(1), unify.Var(3)
	if !unify.Equate(a, b) || !unify.Equate(c, a) || !c.IsVar(1) || !a.IsVar(1) || !b.IsVar(1) {
		t.Error("the least variable remains")
	}
	l := unify.Make(api.ListType, unify.Make(api.IntType))
	if !unify.Equate(unify.Make(api.ListType, c), l) || fmt.Sprint(a.Api()) != fmt.Sprint(api.Type{Kind: api.IntType}) || a.IsVar(1) {
		t.Error("variables become types")
	}
	if unify.Equate(l, unify.Make(api.IntType)) || unify.Equate(a, unify.Make(api.BoolType)) {
		t.Error("kinds differ")
	}
}

func TestMeasure(t *testing.T) {
	x := unify.Make(api.IntType)
	for range 100 {
		x = unify.Make(api.FunType, x, x)
	}
	m := unify.NewMeasure()
	if m.Size(x) != unify.Most+1 || m.Cyclic || m.Size(unify.Make(api.ListType, unify.Var(0))) != 2 {
		t.Error("Size")
	}
	v := unify.Var(0)
	unify.Equate(v, unify.Make(api.ListType, v))
	if m.Size(v); !m.Cyclic {
		t.Error("Cyclic")
	}
}
