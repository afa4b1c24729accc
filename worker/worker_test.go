package worker_test

import (
	"strings"
	"testing"

	"cordwood/action"
	"cordwood/api"
	"cordwood/digest"
	"cordwood/sandbox"
	"cordwood/worker"
)

func ready(source string) api.Ready {
	return api.Ready{Action: api.Action{Kind: api.CompileAction, Label: "m", Inputs: []api.Input{{Name: "source m", Digest: digest.Of(source)}}}, Files: []api.File{{Path: "source m", Data: source}}}
}

func right(t *testing.T, x api.Ready) string {
	t.Helper()
	o, _, e := sandbox.Run(x)
	s, f := action.EncodeOutput(o)
	if e != api.OK && e != api.ErrUndeclared || f != api.OK {
		t.Fatal(e, f)
	}
	return s
}

func TestAnswers(t *testing.T) {
	for _, source := range []string{"let f @1 = 1 ;", "?", "use n ;"} {
		x := ready(source)
		want := right(t, x)
		for k, y := range []struct {
			kind, param, count int
			data               string
			after              int
		}{
			{api.HonestWorker, 1, 0, want, 1}, {api.HonestWorker, 100, 7, want, 100}, {api.LostWorker, 0, 3, "", -1}, {api.FaultyWorker, 5, 0, want, 5}, {api.FaultyWorker, 5, 1, "", -1}, {api.FaultyWorker, 5, 8, want, 5}, {api.LyingWorker, 4, 3, "\x01\x05lie 4\x00", 1}, {api.LyingWorker, 1 << 40, 3, "\x01\x11lie 1099511627776\x00", 1},
		} {
			for _, name := range []string{"ann", "bob"} {
				w := api.Worker{Name: name, Kind: y.kind, Param: y.param}
				r, e := worker.Answer(w, x, y.count)
				if e != api.OK || r.Data != y.data || r.After != y.after {
					t.Errorf("P47.1, P47.4: %d %q %d %d", k, r.Data, r.After, e)
				}
				if worker.Honest(w) && r.Data != "" && r.Data != want {
					t.Error("P47.2", k)
				}
			}
		}
		for param := range 6 {
			r, e := worker.Answer(api.Worker{Name: "a", Kind: api.LyingWorker, Param: param}, x, 1)
			o, f := action.DecodeOutput(r.Data)
			if e != api.OK || f != api.OK || r.Data == want {
				t.Error("P47.3", param, e, f)
			}
			good, _ := action.DecodeOutput(want)
			if param%2 == 1 && good.Failed && (o.Failed || len(o.Files) != 0) {
				t.Error("P47.1", param)
			}
			if param%2 == 1 && !good.Failed && (o.Files[0].Data != good.Files[0].Data+"!" || o.Files[1] != good.Files[1]) {
				t.Error("P47.1", param)
			}
		}
	}
}

func TestErrors(t *testing.T) {
	for k, x := range []struct {
		w api.Worker
		e api.Errno
	}{
		{api.Worker{}, api.ErrName}, {api.Worker{Name: ".", Kind: 9}, api.ErrName}, {api.Worker{Name: "a", Param: -1}, api.ErrKind}, {api.Worker{Name: "a", Kind: 5}, api.ErrKind}, {api.Worker{Name: "a", Kind: 1}, api.ErrRange}, {api.Worker{Name: "a", Kind: 1, Param: 101}, api.ErrRange}, {api.Worker{Name: "a", Kind: 2, Param: 1}, api.ErrRange}, {api.Worker{Name: "a", Kind: 3, Param: -1}, api.ErrRange}, {api.Worker{Name: "a", Kind: 3, Param: 1<<40 + 1}, api.ErrRange}, {api.Worker{Name: "a", Kind: 4}, api.ErrRange}, {api.Worker{Name: "a", Kind: 4, Param: 101}, api.ErrRange}, {api.Worker{Name: "a", Kind: 2}, api.OK}, {api.Worker{Name: strings.Repeat("a", 25), Kind: 2}, api.ErrName},
	} {
		if e := worker.Check(x.w); e != x.e || worker.Honest(x.w) != (e == api.OK && x.w.Kind != 3) {
			t.Error("P47.1: Check", k, e)
		}
		want := x.e
		if want == api.OK {
			want = api.ErrRange
		}
		if r, e := worker.Answer(x.w, api.Ready{}, -1); e != want || r != (api.Reply{}) {
			t.Error("P47.1: Answer", k, e)
		}
	}
	if r, e := worker.Answer(api.Worker{Name: "a", Kind: 2}, api.Ready{}, 0); e != api.ErrKind || r != (api.Reply{}) {
		t.Error("P47.1: Answer", e)
	}
	if worker.Honest(api.Worker{Name: "a", Kind: 3}) {
		t.Error("P47.1: Honest")
	}
}
