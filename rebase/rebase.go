// Package rebase applies a change that was written on one tree to another one, as chapter 58 defines the result of a change.
package rebase

import (
	"cordwood/api"
	"cordwood/repomerge"
)

// Result returns the tree that a change leads to on another tree than the one on which it was written, unless they conflict.
func Result(base, on, change []api.File) ([]api.File, bool) {
	m, e := repomerge.Merge(base, on, change)
	if e != api.OK {
		return nil, false
	}
	l, e := repomerge.Tree(m)
	return l, e == api.OK
}
