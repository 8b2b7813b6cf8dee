package path

import (
	"dioptre/api"
	"dioptre/pack"
	"dioptre/scan"
	"dioptre/value"
)

// Write writes a path.
func Write(w *pack.Writer, p []api.Step) {
	if !Right(p) {
		return
	}
	w.Number(uint64(len(p)))
	for _, s := range p {
		w.Text(s.Name)
		if s.Name == "" {
			w.Number(s.Id)
		}
	}
}

// Read reads a path.
func Read(r *pack.Reader) []api.Step {
	var p []api.Step
	for range scan.Count(r, api.MaxPath) {
		p = append(p, readStep(r))
	}
	if r.Err() != nil {
		return nil
	}
	return p
}

// readStep reads a step.
func readStep(r *pack.Reader) api.Step {
	name := scan.Word(r, func(s string) bool { return s == "" || value.Name(s) })
	if name != "" {
		return api.Step{Name: name}
	}
	return api.Step{Id: scan.Number(r, func(id uint64) bool { return id != 0 })}
}
