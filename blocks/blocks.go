// Package blocks encodes blocks of instructions, as the chapters 28 and 30 define it.
package blocks

import (
	"strings"

	"cordwood/api"
	"cordwood/parts"
)

// Text returns the encoding of the number of blocks and of them.
func Text(l []api.Block) string {
	var s strings.Builder
	s.WriteString(parts.Int(len(l)))
	for _, b := range l {
		s.WriteString(parts.Int(b.Captured) + parts.Int(parts.Bool(b.Param)) + parts.Int(len(b.Instrs)))
		for _, x := range b.Instrs {
			s.WriteString(parts.Int(x.Op) + parts.Int(parts.Signed(x.A)) + parts.Int(x.B) + parts.Text(x.Name))
		}
	}
	return s.String()
}

// Read reads blocks.
func Read(r *parts.Reader) []api.Block {
	var l []api.Block
	for range r.Count() {
		b := api.Block{Captured: r.Int(), Param: r.Bool()}
		for range r.Count() {
			b.Instrs = append(b.Instrs, api.Instr{Op: r.Int(), A: r.Signed(), B: r.Int(), Name: r.Text()})
		}
		l = append(l, b)
	}
	return l
}
