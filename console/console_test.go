package console_test

import (
	"fmt"
	"math/rand"
	"slices"
	"strings"
	"testing"

	"cordwood/api"
	"cordwood/console"
	"cordwood/place"
)

func same(a, b any) bool { return fmt.Sprintf("%v", a) == fmt.Sprintf("%v", b) }

func files(l ...string) []api.File {
	var f []api.File
	for i := 0; i < len(l); i += 2 {
		f = append(f, api.File{Path: l[i], Data: l[i+1]})
	}
	return f
}

var acts = map[string]api.Act{
	`submit "ann" 2 0 "a" "x\"\n"`: {Kind: api.SubmitInput, Who: "ann", Priority: 2, Files: files("a", "x\"\n")}, `submit "" -1 -5`: {Kind: api.SubmitInput, Priority: -1, At: -5}, `submit "a b" 0 1099511627776 "\\ \"" "" "\x00\x1f\x7f\xff" "~ #"`: {Kind: api.SubmitInput, Who: "a b", At: 1 << 40, Files: files("\\ \"", "", "\x00\x1f\x7f\xff", "~ #")},
	`approve "bob" 7`: {Kind: api.ApproveInput, Who: "bob", Change: 7}, "tick": {Kind: api.TickInput}, "cut": {Kind: api.CutInput}, "cut 1 -2 0": {Kind: api.CutInput, Picks: []int{1, -2, 0}}, "power 3": {Kind: api.PowerInput, Count: 3}, `worker "w" 3 4`: {Kind: api.WorkerInput, Who: "w", Count: 3, At: 4}, `rollback "a" 1`: {Kind: api.RollbackInput, Who: "a", Change: 1}, "run 40": {Kind: api.RunInput, Count: 40},
}

func TestLines(t *testing.T) {
	for line, a := range acts {
		if s, e := console.Line(a); s != line || e != api.OK {
			t.Errorf("P60.1: Line %q %d", s, e)
		}
		if b, e := console.Parse(line); e != api.OK || !same(a, b) {
			t.Errorf("P60.2: Parse %q %d", line, e)
		}
		for _, bad := range []string{line + " ", " " + line, line + " x", line[1:], line + "\n", line + `"`, strings.Replace(line, " ", "  ", 1) + " ", strings.ToUpper(line)} {
			if b, e := console.Parse(bad); e != api.ErrSyntax || !same(b, api.Act{}) {
				t.Errorf("P60.2: Parse %q %d", bad, e)
			}
		}
	}
	for _, s := range []string{"", "tick 1", "run", "run 1 2", "run 01", "run +1", "run -0", "run 1099511627777", "run 99999999999999999999", "cut x", `approve bob 7`, `approve "bob"`, `approve "bob" "7"`, `approve "b\ob" 7`, `approve "\x4" 7`, `approve "\x41" 7`, `approve "\x0A" 7`, `approve "\x0a" 7`, `approve "\xff"7`, "approve \"\xff\" 7", "approve \"a\tb\" 7", `approve "a"b" 7`, `submit "a" 1 2 "x"`, `submit "a" 1 2 "x" "y" "z"`, `submit "a" 1`, `"tick"`, "input", `worker "w" 3`, "approve \"a\nb\" 7"} {
		if b, e := console.Parse(s); e != api.ErrSyntax || !same(b, api.Act{}) {
			t.Errorf("P60.2: Parse %q %d", s, e)
		}
	}
}

func TestLineErrors(t *testing.T) {
	long := strings.Repeat("x", 65537)
	for k, x := range []struct {
		a api.Act
		e api.Errno
	}{
		{api.Act{}, api.ErrKind}, {api.Act{Kind: 9, Who: long}, api.ErrKind}, {api.Act{Kind: api.TickInput, Count: 1}, api.ErrArgument}, {api.Act{Kind: api.RunInput, Count: 1 << 41, Who: "a"}, api.ErrArgument}, {api.Act{Kind: api.CutInput, Files: files("a", "")}, api.ErrArgument}, {api.Act{Kind: api.SubmitInput, Change: 1}, api.ErrArgument}, {api.Act{Kind: api.SubmitInput, Picks: []int{0}}, api.ErrArgument}, {api.Act{Kind: api.ApproveInput, At: 1}, api.ErrArgument}, {api.Act{Kind: api.ApproveInput, Priority: 1}, api.ErrArgument},
		{api.Act{Kind: api.SubmitInput, Who: long, At: 1<<40 + 1}, api.ErrRange}, {api.Act{Kind: api.CutInput, Picks: append(make([]int, 1001), -1<<40-1)}, api.ErrRange}, {api.Act{Kind: api.CutInput, Picks: make([]int, 1001)}, api.ErrLimit}, {api.Act{Kind: api.CutInput, Picks: make([]int, 1000)}, api.OK}, {api.Act{Kind: api.SubmitInput, Who: long}, api.ErrLimit}, {api.Act{Kind: api.SubmitInput, Files: make([]api.File, 201)}, api.ErrLimit}, {api.Act{Kind: api.SubmitInput, Files: files(long, "")}, api.ErrLimit}, {api.Act{Kind: api.SubmitInput, Files: files("", long)}, api.ErrLimit}, {api.Act{Kind: api.SubmitInput, Files: files("", long[1:])}, api.OK}, {api.Act{Kind: api.SubmitInput, Files: make([]api.File, 200)}, api.OK},
	} {
		s, e := console.Line(x.a)
		if e != x.e || (s == "") != (e != api.OK) {
			t.Error("P60.1: Line", k, e)
		}
		if e == api.OK {
			if b, e := console.Parse(s); e != api.OK || !same(b, x.a) {
				t.Error("P60.2", k, e)
			}
		}
	}
	r := rand.New(rand.NewSource(1))
	for range 500 {
		b := make([]byte, r.Intn(12))
		for i := range b {
			b[i] = " \"\\nx0a\n\x00\x7f\xff#"[r.Intn(12)]
		}
		a := api.Act{Kind: api.SubmitInput, Who: string(b), Files: files(string(b), "\\"+string(b))}
		s, e := console.Line(a)
		if x, f := console.Parse(s); e != api.OK || f != api.OK || !same(x, a) || strings.Contains(s, "\n") {
			t.Errorf("P60.2: %q %d %d", s, e, f)
		}
		if x, e := console.Parse(string(b)); e == api.OK {
			if again, _ := console.Line(x); again != string(b) {
				t.Errorf("P60.2: %q", b)
			}
		}
	}
}

func TestShow(t *testing.T) {
	for k, x := range []struct {
		kind int
		o    api.Outcome
		s    string
	}{
		{api.RunInput, api.Outcome{Err: 8}, "run error 8"}, {api.SubmitInput, api.Outcome{Id: 3}, "submit ok id 3"}, {0, api.Outcome{Err: -1, Id: -2}, "input error -1 id -2"}, {9, api.Outcome{}, "input ok"}, {api.RunInput, api.Outcome{Events: []api.Event{{Kind: 1, Change: 4}, {Kind: 2, Change: 5, With: []int{4, -6}}, {Kind: 3, Change: 1}, {Kind: 7, Change: 2, With: []int{1}}, {Kind: -7}}}, "run ok land 4 refuse 5 with 4 -6 rollback 1 event 7 2 with 1 event -7 0"}, {api.TickInput, api.Outcome{Err: 20, Events: []api.Event{{Kind: 1, Change: 1}}}, "tick error 20 land 1"},
	} {
		if s := console.Show(api.Act{Kind: x.kind}, x.o); s != x.s {
			t.Errorf("P60.1: Show %d %q", k, s)
		}
	}
}

const first = `place 1 1 workers "w" 1 1 files "BUILD" "lib a ; test t deps a ;" "a.pk" "pub let f @1 = 2 ;" "t.pk" "use a ; test good @1 = (a.f = 2) ;"`

func TestRun(t *testing.T) {
	change := `submit "ann" 0 0 "BUILD" "lib a ; test t deps a ;" "a.pk" "pub let f @1 = (1 + 1) ;" "t.pk" "use a ; test good @1 = (a.f = 2) ;"`
	want := "submit ok id 1\nrun ok land 1\nheld\nfile \"BUILD\" \"lib a ; test t deps a ;\"\nfile \"a.pk\" \"pub let f @1 = (1 + 1) ;\\n\"\nfile \"t.pk\" \"use a ;\\ntest good @1 = (a.f = 2) ;\\n\"\n"
	for _, script := range []string{first + "\n" + change + "\nrun 40", "# comment\n\n" + first + "\n#run 5\n" + change + "\n\n\nrun 40\n", "\n" + first + "\n" + change + "\nrun 40\n#"} {
		if s, e := console.Run(script); s != want || e != api.OK {
			t.Errorf("P60.4: %q %d", s, e)
		}
	}
	if s, e := console.Run(first); e != api.OK || !strings.HasPrefix(s, "held\nfile ") {
		t.Errorf("P60.1: %q %d", s, e)
	}
	x, _ := place.New(files("BUILD", "lib a ; test t deps a ;", "a.pk", "pub let f @1 = 2 ;", "t.pk", "use a ; test good @1 = (a.f = 2) ;"), []api.Worker{{Name: "w", Kind: 1, Param: 1}}, 1, 1)
	lines := []string{change, "tick", "power 2", "run 30", `rollback "bob" 1`, "cut 5 512 512", "run 9", `worker "w" 2 0`, `approve "z" 9`}
	var inputs []api.Act
	for _, s := range lines {
		a, e := console.Parse(s)
		if e != api.OK {
			t.Fatal(s, e)
		}
		inputs = append(inputs, a)
	}
	x, outcomes := place.Run(x, inputs)
	out := ""
	for i, o := range outcomes {
		out += console.Show(inputs[i], o) + "\n"
	}
	if s, e := console.Run(first + "\n" + strings.Join(lines, "\n")); e != api.OK || !strings.HasPrefix(s, out+"held") {
		t.Errorf("P60.3: %q %q %d", s, out, e)
	}
}

func TestHeld(t *testing.T) {
	start := `place 1 1 workers "w" 1 1 files "OWNERS" "all group ann ;" "x" "1"`
	script := start + "\n" + `submit "bob" 0 0 "OWNERS" "all group ann ;" "x" "2"` + "\n" + `submit "bob" 0 0 "OWNERS" "all group ann ;" "x" "3"` + "\nrun 9\n"
	want := "submit ok id 1\nsubmit ok id 2\nrun ok\nheld 1 2\nfile \"OWNERS\" \"all group ann ;\"\nfile \"x\" \"1\"\n"
	if s, e := console.Run(script); s != want || e != api.OK {
		t.Errorf("P60.1: %q %d", s, e)
	}
}

func TestRunErrors(t *testing.T) {
	many := strings.Repeat("tick\n", 1001)
	workers := ""
	for i := range 17 {
		workers += fmt.Sprintf(` "w%02d" 1 1`, i)
	}
	for k, x := range []struct {
		script string
		e      api.Errno
	}{
		{"", api.ErrSyntax}, {"#\n\n", api.ErrSyntax}, {"tick", api.ErrSyntax}, {first + "\nfoo", api.ErrSyntax}, {first + "\n" + first, api.ErrSyntax}, {first + "\n" + many, api.ErrLimit}, {first + "\n" + many + "foo", api.ErrSyntax}, {first + " ", api.ErrSyntax}, {strings.Replace(first, "1 1", "1 01", 1), api.ErrSyntax}, {strings.Replace(first, "workers", "worker", 1), api.ErrSyntax}, {strings.Replace(first, "files", "file", 1), api.ErrSyntax}, {"place 1 1 workers" + workers + " files", api.ErrSyntax}, {"place 1 1 workers" + strings.Replace(workers, ` "w16" 1 1`, "", 1) + " files", api.OK}, {"place 1 1 workers files", api.ErrLimit}, {"place 1 0 workers files", api.ErrRange}, {`place 1 1 workers "w" 1 1 files "x"`, api.ErrSyntax}, {`place 1 1 workers "w" 1 files`, api.ErrSyntax}, {"place", api.ErrSyntax}, {"place 1 1", api.ErrSyntax},
		{`place 1 1 workers "w" 1 1 files "BUILD" "lib a ;" "a.pk" "let f @1 = (1 + true) ;"`, api.ErrRed}, {`place 1 1 workers "w" 1 1 files` + strings.Repeat(` "x" ""`, 201), api.ErrSyntax}, {`place 1 1 workers "w" 1 1 files "b" "" "a" ""`, api.ErrOrder}, {"\t" + first, api.ErrSyntax}, {" #", api.ErrSyntax},
	} {
		if s, e := console.Run(x.script); e != x.e || (s == "") != (e != api.OK) {
			t.Error("P60.1: Run", k, e, x.e)
		}
	}
}

func TestOutcomes(t *testing.T) {
	events := [][]api.Event{nil, {{Kind: 1, Change: 1}}, {{Kind: 2, Change: 1}}, {{Kind: 2, Change: 1, With: []int{2}}}, {{Kind: 1, Change: 1}, {Kind: 1, Change: 2}}, {{Kind: 3, Change: 1}}}
	met := []string{}
	for _, e := range []api.Errno{0, 8} {
		for id := range 2 {
			for _, l := range events {
				s := console.Show(api.Act{Kind: 1}, api.Outcome{Err: e, Id: id, Events: l})
				if slices.Contains(met, s) {
					t.Error("P60.5", s)
				}
				met = append(met, s)
			}
		}
	}
}
