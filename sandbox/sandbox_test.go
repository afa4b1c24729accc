package sandbox_test

import (
	"fmt"
	"slices"
	"strings"
	"testing"

	"cordwood/action"
	"cordwood/api"
	"cordwood/bind"
	"cordwood/compile"
	"cordwood/digest"
	"cordwood/eval"
	"cordwood/iface"
	"cordwood/parser"
	"cordwood/sandbox"
)

func same(a, b any) bool { return fmt.Sprintf("%q", a) == fmt.Sprintf("%q", b) }

// ready returns a Ready with some files, in ascending order of their names.
func ready(kind int, label string, l ...string) api.Ready {
	x := api.Ready{Action: api.Action{Kind: kind, Label: label}}
	for i := 0; i < len(l); i += 2 {
		x.Files = append(x.Files, api.File{Path: l[i], Data: l[i+1]})
	}
	slices.SortFunc(x.Files, func(a, b api.File) int { return strings.Compare(a.Path, b.Path) })
	for _, f := range x.Files {
		x.Action.Inputs = append(x.Action.Inputs, api.Input{Name: f.Path, Digest: digest.Of(f.Data)})
	}
	return x
}

func run(t *testing.T, x api.Ready) (api.Output, []string, api.Errno) {
	t.Helper()
	o, asked, e := sandbox.Run(x)
	if e != api.OK && e != api.ErrUndeclared {
		t.Fatal("P42.2", e)
	}
	if s, f := action.EncodeOutput(o); f != api.OK || len(s) > 65536 || !slices.IsSorted(asked) || e == api.ErrUndeclared && o.Message != "undeclared" {
		t.Error("P42.2", o, f)
	}
	hermetic(t, x, o, asked, e)
	return o, asked, e
}

// hermetic leaves out and adds files.
func hermetic(t *testing.T, x api.Ready, o api.Output, asked []string, e api.Errno) {
	t.Helper()
	more := []string{"verdict zz", "?"}
	for _, f := range x.Files {
		if slices.Contains(asked, f.Path) {
			more = append(more, f.Path, f.Data)
		}
	}
	if p, l, f := sandbox.Run(ready(x.Action.Kind, x.Action.Label, more...)); !same(p, o) || !slices.Equal(l, asked) || f != e {
		t.Error("P42.3", f)
	}
	if e != api.OK {
		return
	}
	for _, out := range asked {
		var less []string
		for _, f := range x.Files {
			if f.Path != out {
				less = append(less, f.Path, f.Data)
			}
		}
		if _, _, f := sandbox.Run(ready(x.Action.Kind, x.Action.Label, less...)); f != api.ErrUndeclared {
			t.Error("P42.3", out, f)
		}
	}
}

func TestExample(t *testing.T) {
	o, asked, e := run(t, ready(api.CompileAction, "m", "source m", "use n ; let f @1 = 1 ;"))
	if e != api.ErrUndeclared || !slices.Equal(asked, []string{"iface n", "source m"}) || !same(o, api.Output{Failed: true, Message: "undeclared"}) {
		t.Error("P42.1", o, asked, e)
	}
	o, asked, e = run(t, ready(api.CompileAction, "m", "source m", "let f @1 = 1 ;"))
	if e != api.OK || !slices.Equal(asked, []string{"source m"}) || len(o.Files) != 2 || o.Files[0].Path != "code m" || o.Files[1].Path != "iface m" {
		t.Error("P42.1", o, asked, e)
	}
}

var texts = []string{"pub let f @1 = (fun x -> (x + 1)) ; let g @2 = 1 ;", "use m0 ; pub let h @1 = (m0.f 1) ;", "use m1 ; test good @1 = (m1.h = 2) ; test bad @2 = (m1.h = 3) ; test loop @3 = loop ; flaky no @4 = (chance 1 of 2) ; test fault @5 = ((999999999 + m1.h) = 1) ;"}

func TestChain(t *testing.T) {
	var known []api.Interface
	var modules []api.Module
	products := map[string]string{}
	for i, s := range texts {
		label := fmt.Sprint("m", i)
		f, _, _ := parser.Parse(s)
		m, e := bind.Bind(label, f, known)
		own, _ := iface.Of(m, known)
		code, _ := compile.Module(m)
		modules, known = append(modules, m), append(known, own)
		l := []string{"source " + label, s}
		if i > 0 {
			l = append(l, fmt.Sprint("iface m", i-1), products[fmt.Sprint("iface m", i-1)])
		}
		o, _, f2 := run(t, ready(api.CompileAction, label, l...))
		wantIface, _ := iface.Encode(own)
		wantCode, _ := compile.Encode(code)
		if e != api.OK || f2 != api.OK || o.Failed || o.Files[0].Data != wantCode || o.Files[1].Data != wantIface {
			t.Fatal("P42.4", label, o.Message, e, f2)
		}
		products["code "+label], products["iface "+label] = o.Files[0].Data, o.Files[1].Data
	}
	o, asked, e := run(t, ready(api.LinkAction, "m2", "code m2", products["code m2"], "code m1", products["code m1"], "code m0", products["code m0"], "code zz", ""))
	if e != api.OK || o.Failed || !slices.Equal(asked, []string{"code m0", "code m1", "code m2"}) {
		t.Fatal("P42.1: link", o.Message, asked, e)
	}
	o, _, e = run(t, ready(api.TestAction, "m2", "program m2", o.Files[0].Data))
	want := ""
	for _, id := range []int{1, 2, 3, 5} {
		v := eval.Test(modules, api.Name{Pack: "m2", Id: id}, api.TestSteps, 0)
		want += fmt.Sprintf("%d %s %d\n", id, map[bool]string{true: "pass", false: "fail"}[v.Pass], v.Steps)
	}
	if e != api.OK || !same(o.Files, []api.File{{Path: "verdict m2", Data: want}}) {
		t.Error("P42.5", o, want, e)
	}
	if o, _, _ := run(t, ready(api.TestAction, "other", "program other", "\x00\x00")); !same(o, api.Output{Files: []api.File{{Path: "verdict other"}}}) {
		t.Error("P42.1: no tests", o)
	}
}

func TestFailures(t *testing.T) {
	own, _ := iface.Encode(api.Interface{Label: "n"})
	big := "let f @1 = 1 ; "
	for i := range 99 {
		big += fmt.Sprintf("let f%d @%d = %s1%s ; ", i, i+2, strings.Repeat("(1 + ", 35), strings.Repeat(")", 35))
	}
	wide := ""
	for i := range 65 {
		e := "1"
		for range 7 {
			e = "(" + e + " + " + e + ")"
		}
		wide += fmt.Sprintf("let f%d @%d = %s ; ", i, i+2, e)
	}
	code, _ := compile.Encode(api.Code{Label: "n"})
	lost, _ := compile.Encode(api.Code{Label: "m", Blocks: []api.Block{{Instrs: []api.Instr{{Op: api.GlobalInstr, Name: "n", A: 1}, {Op: api.RetInstr}}}}, Decls: []api.CodeDecl{{Id: 1, Kind: api.TestDecl}}})
	for k, x := range []struct {
		kind  int
		l     []string
		want  string
		asked string
	}{
		{api.CompileAction, []string{"source m", "let"}, "parse", "source m"}, {api.CompileAction, []string{"source m", "use n ;", "iface n", "x"}, "interface", "iface n;source m"}, {api.CompileAction, []string{"source m", "use l ; use n ;", "iface l", own}, "interface", "iface l;source m"}, {api.CompileAction, []string{"source m", "use n ; let f @1 = n.f ;", "iface n", own}, "bind", "iface n;source m"}, {api.CompileAction, []string{"source m", "let f = 1 ;"}, "bind", "source m"}, {api.CompileAction, []string{"source m", "let f @1 = (1 + nil) ;"}, "types", "source m"}, {api.CompileAction, []string{"source m", "conflict let f @1 = 1 ;"}, "types", "source m"},
		{api.CompileAction, []string{"source m", big}, "", "source m"}, {api.CompileAction, []string{"source m", wide}, "size", "source m"}, {api.LinkAction, []string{"code m", "?"}, "code", "code m"}, {api.LinkAction, []string{"code m", code}, "code", "code m"}, {api.LinkAction, []string{"code m", lost, "code n", code}, "link", "code m;code n"}, {api.LinkAction, []string{"code m", lost, "code n", lost}, "code", "code m;code n"}, {api.LinkAction, []string{"code m", lost}, "undeclared", "code m;code n"}, {api.TestAction, []string{"program m", "?"}, "program", "program m"}, {api.TestAction, nil, "undeclared", "program m"},
	} {
		o, asked, e := run(t, ready(x.kind, "m", x.l...))
		if o.Message != x.want || o.Failed != (x.want != "") || strings.Join(asked, ";") != x.asked || (e == api.ErrUndeclared) != (x.want == "undeclared") {
			t.Error("P42.1", k, o.Message, asked, e)
		}
	}
}

func TestCheck(t *testing.T) {
	good := ready(api.TestAction, "m", "program m", "x")
	change := func(f func(x *api.Ready)) api.Ready {
		x := good
		x.Files = slices.Clone(x.Files)
		x.Action.Inputs = slices.Clone(x.Action.Inputs)
		f(&x)
		return x
	}
	for k, x := range []struct {
		x api.Ready
		e api.Errno
	}{
		{good, api.OK}, {api.Ready{}, api.ErrKind}, {change(func(x *api.Ready) { x.Files = nil; x.Action.Label = "" }), api.ErrName}, {change(func(x *api.Ready) { x.Files = nil }), api.ErrMismatch}, {change(func(x *api.Ready) { x.Files[0].Path = "program n" }), api.ErrMismatch}, {change(func(x *api.Ready) { x.Files[0].Data = strings.Repeat("x", 65537) }), api.ErrLimit}, {change(func(x *api.Ready) { x.Files[0].Data = "y" }), api.ErrDigest},
	} {
		if e := sandbox.Check(x.x); e != x.e {
			t.Error("P42.1: Check", k, e)
		}
		if x.e == api.OK {
			continue
		}
		if o, l, e := sandbox.Run(x.x); e != x.e || len(l) != 0 || !same(o, api.Output{}) {
			t.Error("P42.1: Run", k, e)
		}
	}
}
