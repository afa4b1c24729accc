package console_test

import (
	"fmt"
	"maps"
	"math/rand"
	"reflect"
	"slices"
	"strings"
	"testing"

	"cordwood/api"
	"cordwood/compile"
	"cordwood/farm"
	"cordwood/graph"
	"cordwood/incremental"
	"cordwood/link"
	"cordwood/machine"
	"cordwood/parser"
	"cordwood/place"
	"cordwood/remote"
	"cordwood/repomerge"
)

// calls is how often each function is called.
const calls = 60

var (
	texts   = []string{"", "a", "m", "f", "x", "if", "nil", "a/b", "..", "BUILD", "a.pk", "OWNERS", "source a", "iface a", "code a", "lib a ;", "test t deps a ;", "pub let f @1 = 1 ;", "use a ; test g @1 = (a.f = 1) ;", "trunk", "ann", "\x00", "\x01\x00", "\x02\x00", "+", "<<<<<<<\n", "a\nb\n", "(list a)", "(a -> a)", "run 5", "place 1 1 workers files", "all group ann ;", "1", "\xff\xff\xff\xff\x01"}
	numbers = []int{0, 1, 2, 3, 4, 5, 10, -1, -2, 20, 100, 1000, 999999, 1 << 20, 1 << 40, 1<<40 + 1, 1<<63 - 1, -1 << 63}
)

// maker makes values, often from parts of valid ones.
type maker struct {
	*rand.Rand
	known map[reflect.Type][]reflect.Value
}

// learn adds a value and the values within it.
func (m *maker) learn(v reflect.Value, depth int) {
	if t := v.Type(); len(m.known[t]) < 300 {
		m.known[t] = append(m.known[t], v)
	} else {
		m.known[t][m.Intn(300)] = v
	}
	if depth == 0 {
		return
	}
	switch v.Kind() {
	case reflect.Struct:
		for i := range v.NumField() {
			m.learn(v.Field(i), depth-1)
		}
	case reflect.Slice:
		for i := range min(v.Len(), 20) {
			m.learn(v.Index(i), depth-1)
		}
	}
}

// value returns a value of a type.
func (m *maker) value(t reflect.Type, depth int) reflect.Value {
	if l := m.known[t]; len(l) > 0 && m.Intn(3) > 0 {
		return m.change(l[m.Intn(len(l))], depth)
	}
	v := reflect.New(t).Elem()
	switch t.Kind() {
	case reflect.Int:
		v.SetInt(int64(numbers[m.Intn(len(numbers))]))
	case reflect.Uint64:
		v.SetUint(uint64(m.Intn(3)))
	case reflect.Bool:
		v.SetBool(m.Intn(2) == 0)
	case reflect.String:
		v.SetString(texts[m.Intn(len(texts))])
	case reflect.Array:
		for i := range t.Len() {
			v.Index(i).Set(m.value(t.Elem(), depth-1))
		}
	case reflect.Struct:
		for i := 0; i < t.NumField() && depth > 0; i++ {
			v.Field(i).Set(m.value(t.Field(i).Type, depth-1))
		}
	case reflect.Slice:
		for i := m.Intn(4); i > 0 && depth > 0; i-- {
			v = reflect.Append(v, m.value(t.Elem(), depth-1))
		}
	}
	return v
}

// change returns a value in which something can be another.
func (m *maker) change(v reflect.Value, depth int) reflect.Value {
	if depth <= 0 || m.Intn(3) == 0 {
		return v
	}
	n := reflect.New(v.Type()).Elem()
	n.Set(v)
	switch v.Kind() {
	case reflect.Struct:
		if v.NumField() > 0 {
			i := m.Intn(v.NumField())
			n.Field(i).Set(m.change(v.Field(i), depth-1))
		}
		return n
	case reflect.Slice:
		if v.Len() == 0 {
			return m.value(v.Type(), depth-1)
		}
		i := m.Intn(v.Len())
		n = reflect.AppendSlice(reflect.MakeSlice(v.Type(), 0, v.Len()), v)
		switch m.Intn(3) {
		case 0:
			return reflect.AppendSlice(n.Slice(0, i), v.Slice(i+1, v.Len()))
		case 1:
			return reflect.Append(n, v.Index(i))
		}
		n.Index(i).Set(m.change(v.Index(i), depth-1))
		return n
	case reflect.String:
		b := []byte(v.String())
		if len(b) > 0 {
			b[m.Intn(len(b))] ^= 1 << m.Intn(8)
		}
		n.SetString(string(b))
		return n
	}
	return m.value(v.Type(), depth-1)
}

// newMaker returns a maker that knows a place and what it consists of.
func newMaker(t *testing.T) *maker {
	m := &maker{Rand: rand.New(rand.NewSource(1)), known: map[reflect.Type][]reflect.Value{}}
	learn := func(values ...any) {
		for _, v := range values {
			m.learn(reflect.ValueOf(v), 6)
		}
	}
	one := files("BUILD", "lib a ; test t deps a ;", "OWNERS", "all group ann ;", "a.pk", "pub let f @1 = (fun x -> (case (x :: nil) of nil -> 0 | h :: k -> (let z = h in (if (z < 2) then z else 7)))) ; let g @2 = (f 1) ;", "n", "x\ny\n", "t.pk", "use a ; test good @1 = ((a.f 1) = 1) ; flaky odd @2 = (chance 1 of 2) ;")
	two, three := slices.Clone(one), slices.Clone(one)
	two[3].Data = "x\nz\n"
	three[2].Data, three[4].Data = "pub let ff @1 = (fun x -> 1) ; pub let h @9 = 3 ;", "use a ; test good @1 = ((a.ff 1) = 1) ;"
	modules, _, _, _ := repomerge.Load(one)
	merged, _ := repomerge.Merge(one, two, three)
	source, _, _ := parser.Parse(one[2].Data)
	g, _, _ := graph.Load(one)
	learn(one, two, three, modules, merged, source, g)
	var codes []api.Code
	for _, x := range modules {
		c, _ := compile.Module(x)
		s, _ := compile.Encode(c)
		codes = append(codes, c)
		learn(c, s)
	}
	p, e := link.Link(codes, []api.Name{{Pack: "t", Id: 1}})
	s, _ := link.Encode(p)
	learn(p, s)
	for x, _ := machine.Begin(p, api.Name{Pack: "t", Id: 1}, 3); !x.Done && x.Err == api.OK; x, _ = machine.Step(x) {
		learn(x)
	}
	c, r, _ := incremental.Build(nil, one)
	f, _ := farm.New([]api.Worker{{Name: "a", Kind: 1, Param: 1}, {Name: "b", Kind: 3, Param: 1}, {Name: "c", Kind: 4, Param: 2}}, 1, 5)
	learn(c, r)
	for i := range 4 {
		f, _, _, _, _ = remote.Build(f, nil, one, i)
		learn(f)
	}
	x, h := place.New(one, []api.Worker{{Name: "a", Kind: 1, Param: 1}}, 1, 2)
	for _, a := range []api.Act{{Kind: 1, Who: "ann", Files: two}, {Kind: 1, Who: "bob", Files: three}, {Kind: 2, Who: "ann", Change: 1}, {Kind: 8, Count: 6}, {Kind: 2, Who: "ann", Change: 2}, {Kind: 8, Count: 12}, {Kind: 5, Count: 3}, {Kind: 8, Count: 9}} {
		x, _ = place.Do(x, a)
		learn(x, a)
	}
	if e != api.OK || h != api.OK || len(x.Queue.Landed) == 0 {
		t.Fatal("there is no place to learn from", e, h)
	}
	return m
}

// call calls a function, and returns its results as text.
func call(t *testing.T, name string, f reflect.Value, args []reflect.Value) string {
	defer func() {
		if x := recover(); x != nil {
			t.Errorf("R1: %s panics: %v\n%.2000s", name, x, fmt.Sprint(args))
		}
	}()
	var b strings.Builder
	for _, v := range f.Call(args) {
		fmt.Fprintf(&b, "%v\n", v)
	}
	return b.String()
}

// Rules R1, R3 and R5: no function panics, changes its arguments, or returns something else the next time.
func TestAll(t *testing.T) {
	m := newMaker(t)
	for _, name := range slices.Sorted(maps.Keys(functions)) {
		f := reflect.ValueOf(functions[name])
		for range calls {
			var args []reflect.Value
			for i := range f.Type().NumIn() {
				args = append(args, m.value(f.Type().In(i), 6))
			}
			before := fmt.Sprint(args)
			first := call(t, name, f, args)
			if fmt.Sprint(args) != before {
				t.Errorf("R3: %s changes its arguments", name)
			}
			if call(t, name, f, args) != first {
				t.Errorf("R5: %s does not return the same again", name)
			}
		}
	}
}
