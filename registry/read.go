package registry

import (
	"slices"

	"dioptre/api"
	"dioptre/lens"
	"dioptre/schema"
)

// Edge leads from what was reached to what is.
type Edge struct {
	From, To api.Hash
	Down     bool
}

// all are the versions by their names; of a nil registry none.
func (r *Registry) all() map[api.Hash]version {
	if r == nil {
		return nil
	}
	return r.versions
}

// made is a version that was made of another one. The root's name alone tells that it wasn't: its from is zero, but so may be a version's name.
func (r *Registry) made(v api.Hash) (version, bool) {
	x, ok := r.all()[v]
	if !ok || v == r.names[0] {
		return version{}, false
	}
	return x, true
}

// Versions is all names.
func (r *Registry) Versions() []api.Hash {
	if r == nil {
		return nil
	}
	return slices.Clone(r.names)
}

// Schema is a version's schema.
func (r *Registry) Schema(v api.Hash) (api.Schema, bool) {
	x, ok := r.all()[v]
	return schema.Copy(x.schema), ok
}

// Lens is the lens that made a version.
func (r *Registry) Lens(v api.Hash) (api.Lens, bool) {
	x, ok := r.made(v)
	return lens.Copy(x.lens), ok
}

// From is what a version was made of.
func (r *Registry) From(v api.Hash) (api.Hash, bool) {
	x, ok := r.made(v)
	return x.from, ok
}

// up is the versions from one to the root; none, if it is none.
func (r *Registry) up(v api.Hash) []api.Hash {
	var way []api.Hash
	for _, ok := r.all()[v]; ok; v, ok = r.From(v) {
		way = append(way, v)
	}
	return way
}

// Depth is how far a version is from the root.
func (r *Registry) Depth(v api.Hash) int { return len(r.up(v)) - 1 }

// Path is the versions from one to another one.
func (r *Registry) Path(v, w api.Hash) ([]api.Hash, bool) {
	a, b := r.up(v), r.up(w)
	if len(a) == 0 || len(b) == 0 {
		return nil, false
	}
	// Both ways end at the root. Where they have met, one turns about: of what they have in common just the first one counts.
	for len(a) > 1 && len(b) > 1 && a[len(a)-2] == b[len(b)-2] {
		a, b = a[:len(a)-1], b[:len(b)-1]
	}
	slices.Reverse(b)
	return append(a, b[1:]...), true
}

// Out is the way out of a version.
func (r *Registry) Out(v api.Hash) []Edge {
	var way []Edge
	reach := func(e Edge) { way = append(way, e) }
	r.beside(v, reach)
	for k := 0; k < len(way); k++ {
		last := way[k]
		// Versions are a tree: of all beside what was reached, just the one from which it was is reached already.
		r.beside(last.To, func(e Edge) {
			if e.To != last.From {
				reach(e)
			}
		})
	}
	return way
}

// beside hands on the edges from a version to all beside it, in the order of registering: what it was made of was there ahead of what was made of it.
func (r *Registry) beside(v api.Hash, reach func(e Edge)) {
	if from, ok := r.From(v); ok {
		reach(Edge{From: v, To: from})
	}
	for _, h := range r.all()[v].into {
		reach(Edge{From: v, To: h, Down: true})
	}
}
