package iface_test

import (
	"testing"

	"cordwood/api"
	"cordwood/iface"
)

func TestGreatest(t *testing.T) {
	i := api.Interface{Label: "m", Sigs: []api.Sig{{Id: api.MaxId, Name: "f", Scheme: scheme(t, "int")}}}
	if e := iface.Check(i); e != api.OK {
		t.Error("P26.1", e)
	}
	bad := api.Interface{Label: "m", Sigs: []api.Sig{{Id: 0, Name: "f", Scheme: scheme(t, "int")}}}
	if iface.Fits(bad, i) || iface.Fits(i, bad) || iface.Fits(bad, bad) || iface.Fits(api.Interface{Label: "m"}, bad) {
		t.Error("P26.1: Fits needs valid interfaces")
	}
}
