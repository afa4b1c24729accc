package words_test

import (
	"fmt"
	"testing"

	"cordwood/words"
)

func TestAll(t *testing.T) {
	for s, want := range map[string]string{"": "", " \n": "", "a": "[{a 0}]", " a\nb#c  d # e f\n#g\nh#": "[{a 1} {b#c 3} {d 8} {h# 19}]", "#": "", "# a": "", "a\t;": "[{a\t; 0}]", "##\n\nx": "[{x 4}]"} {
		var l []words.Word
		for w := range words.All(s) {
			l = append(l, w)
		}
		if got := fmt.Sprint(l); got != want && !(want == "" && len(l) == 0) {
			t.Errorf("P38.1: %q %s", s, got)
		}
	}
	r := words.Read("a b ")
	if r.At() != 0 || r.Accept("b") || !r.Accept("a") || r.At() != 2 || r.Done() {
		t.Error("P38.1: reading")
	}
	if s, ok := r.Take(func(string) bool { return true }); s != "b" || !ok || !r.Done() || r.At() != 4 || r.Accept("") {
		t.Error("P38.1: reading")
	}
}
