// Package packs says which files are those of modules, as chapter 36 defines it.
package packs

import (
	"strings"

	"cordwood/lexer"
)

const suffix = ".pk"

// Path returns the path of the file of the module with a label.
func Path(label string) string { return label + suffix }

// Label returns the label of the module whose file has a path, if it is the file of a module.
func Label(path string) (string, bool) {
	label, ok := strings.CutSuffix(path, suffix)
	if !ok || !lexer.Label(label) {
		return "", false
	}
	return label, true
}
