// Package unify has types as nodes that are linked by pointers while they are made equal.
package unify

import "cordwood/api"

// Most is the greatest number of types of which a type of package api consists.
const Most = 200

// Type is a type, or a variable that may have become equal to another type.
type Type struct {
	kind int
	num  int
	sub  []*Type
	link *Type
}

// Var returns the variable with a number.
func Var(num int) *Type { return &Type{kind: api.VarType, num: num} }

// Make returns a type with a kind and the types in it.
func Make(kind int, sub ...*Type) *Type { return &Type{kind: kind, sub: sub} }

// From returns a type of package api, whose variables are those in a map, or are added to it by a function.
func From(t api.Type, vars map[int]*Type, fresh func(num int) *Type) *Type {
	if t.Kind == api.VarType {
		if vars[t.Var] == nil {
			vars[t.Var] = fresh(t.Var)
		}
		return vars[t.Var]
	}
	x := Make(t.Kind)
	for _, s := range t.Sub {
		x.sub = append(x.sub, From(s, vars, fresh))
	}
	return x
}

// find returns the type that stands for all types that are equal to one.
func (t *Type) find() *Type {
	for t.link != nil {
		if t.link.link != nil {
			t.link = t.link.link
		}
		t = t.link
	}
	return t
}

// IsVar reports whether a type is, or has become, the variable with a number.
func (t *Type) IsVar(num int) bool {
	t = t.find()
	return t.kind == api.VarType && t.num == num
}

// Equate makes two types equal, and reports whether that does not need different kinds to be equal. The types may contain themselves then.
func Equate(a, b *Type) bool {
	a, b = a.find(), b.find()
	if a == b {
		return true
	}
	// Of two variables, the one with the lesser number remains.
	if b.kind == api.VarType && (a.kind != api.VarType || a.num < b.num) {
		a, b = b, a
	}
	if a.kind != api.VarType && (a.kind != b.kind || len(a.sub) != len(b.sub)) {
		return false
	}
	a.link = b
	if a.kind == api.VarType {
		return true
	}
	for i := range a.sub {
		if !Equate(a.sub[i], b.sub[i]) {
			return false
		}
	}
	return true
}

// Measure finds the sizes of types, and whether one contains itself.
type Measure struct {
	sizes  map[*Type]int
	Cyclic bool
}

// NewMeasure returns a Measure that has seen no types.
func NewMeasure() *Measure { return &Measure{sizes: map[*Type]int{}} }

// Size returns of how many types a type consists, or more than Most if there are more.
func (m *Measure) Size(t *Type) int {
	t = t.find()
	if n, ok := m.sizes[t]; ok {
		m.Cyclic = m.Cyclic || n == 0
		return n
	}
	// The size 0 says that the types within this one are being measured.
	m.sizes[t] = 0
	n := 1
	for _, s := range t.sub {
		n = min(n+m.Size(s), Most+1)
	}
	m.sizes[t] = n
	return n
}

// Api returns the type of package api for a type that does not contain itself.
func (t *Type) Api() api.Type {
	t = t.find()
	if t.kind == api.VarType {
		return api.Type{Kind: api.VarType, Var: t.num}
	}
	x := api.Type{Kind: t.kind}
	for _, s := range t.sub {
		x.Sub = append(x.Sub, s.Api())
	}
	return x
}
