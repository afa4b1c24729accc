// Package lookup finds interfaces and their signatures as chapter 24 defines it.
package lookup

import (
	"cordwood/api"
	"cordwood/idents"
	"cordwood/types"
)

// Interface returns the interface of a label.
func Interface(known []api.Interface, label string) (api.Interface, bool) {
	for _, x := range known {
		if x.Label == label {
			return x, true
		}
	}
	return api.Interface{}, false
}

// first returns the first signature that counts for which a function is true.
func first(x api.Interface, is func(api.Sig) bool) (api.Sig, bool) {
	for _, s := range x.Sigs {
		if is(s) && s.Id >= 1 && s.Id <= api.MaxId && idents.Name(s.Name) {
			return s, true
		}
	}
	return api.Sig{}, false
}

// ById returns the signature that is meant by an id.
func ById(x api.Interface, id int) (api.Sig, bool) {
	return first(x, func(s api.Sig) bool { return s.Id == id })
}

// ByName returns the signature that is meant by a name.
func ByName(x api.Interface, name string) (api.Sig, bool) {
	return first(x, func(s api.Sig) bool { return s.Name == name })
}

// Closed reports whether a scheme is valid and has no free variables.
func Closed(s api.Scheme) bool {
	if _, _, e := types.Open(s, 0); e != api.OK {
		return false
	}
	return len(types.Vars(s.Type)) == s.Vars
}
