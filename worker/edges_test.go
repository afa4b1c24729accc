package worker_test

import (
	"testing"

	"cordwood/api"
	"cordwood/worker"
)

func TestLeast(t *testing.T) {
	for _, kind := range []int{api.HonestWorker, api.FaultyWorker} {
		for param, want := range map[int]api.Errno{0: api.ErrRange, 1: api.OK, 100: api.OK, 101: api.ErrRange} {
			if e := worker.Check(api.Worker{Name: "a", Kind: kind, Param: param}); e != want {
				t.Error("P47.1", kind, param, e)
			}
		}
	}
}
