package view

import (
	"maps"

	"dioptre/api"
	"dioptre/entry"
	"dioptre/op"
	"dioptre/registry"
	"dioptre/restore"
	"dioptre/schema"
)

// state is what all versions see of some entries. A document that is laid into it never changes: states may share it.
type state struct {
	versions  *registry.Registry
	documents map[api.Hash]api.Value
}

// begin is what a root of a record's right schema sees of no entries.
func begin(root api.Hash, s api.Schema) state {
	versions, _ := registry.New(root, s)
	return state{versions, map[api.Hash]api.Value{root: schema.Default(s)}}
}

// first is what the root of a state saw first.
func (s state) first() state {
	root := s.versions.Versions()[0]
	return begin(root, s.schema(root))
}

// copied is another state that is as this one.
func (s state) copied() state {
	return state{s.versions.Copy(), maps.Clone(s.documents)}
}

// schema is a version's schema.
func (s state) schema(version api.Hash) api.Schema {
	t, _ := s.versions.Schema(version)
	return t
}

// see lets versions see one more entry.
func (s state) see(x entered) {
	if x.Kind == api.Publish {
		s.publish(x)
	} else {
		s.write(x)
	}
}

// publish makes a version, if it may be.
func (s state) publish(x entered) {
	if s.versions.Add(x.name, x.Version, x.Lens) != nil {
		return
	}
	s.documents[x.name], _ = restore.First(x.Lens, s.schema(x.Version))
	s.reach(registry.Edge{From: x.Version, To: x.name, Down: true}, entry.Seed(x.name))
}

// write lets all versions see an operation, if there is its version, and it fits that.
func (s state) write(x entered) {
	// The schema of what is no version is zero: nothing fits it.
	t := s.schema(x.Version)
	if op.Check(x.Op, t) != nil {
		return
	}
	s.change(x.Version, func(there api.Value) api.Value { return op.Apply(t, there, x.Op) })
	for _, e := range s.versions.Out(x.Version) {
		s.reach(e, entry.Seed(x.name))
	}
}

// change lays what the function that is handed on makes of a version's document in that one's place.
func (s state) change(version api.Hash, made func(there api.Value) api.Value) {
	s.documents[version] = made(s.documents[version])
}

// reach goes along an edge, from what was reached to what is.
func (s state) reach(e registry.Edge, seed uint64) {
	here := s.documents[e.From]
	s.change(e.To, func(there api.Value) api.Value {
		// Documents fit their versions, and lenses go on them: there is no error.
		if e.Down {
			l, _ := s.versions.Lens(e.To)
			there, _ = restore.Forward(l, s.schema(e.From), here, there, seed)
		} else {
			l, _ := s.versions.Lens(e.From)
			there, _ = restore.Back(l, s.schema(e.To), here, there, seed)
		}
		return there
	})
}
