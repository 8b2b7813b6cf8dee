package sample

import (
	"math/rand/v2"
	"reflect"
	"slices"
	"testing"

	"dioptre/api"
	"dioptre/schema"
)

// TestRoom: spare room is laid, told and scrambled; the value itself stays the same one, and shares nothing.
func TestRoom(t *testing.T) {
	v := Record([]string{"a", "b"}, Nums(3, 1), InLists(Text("x"), 2))
	kept := Plain(v)
	w := Roomy(v)
	if !reflect.DeepEqual(Plain(w), kept) || reflect.DeepEqual(Whole(w), kept) || len(Whole(w).Names) < 4 {
		t.Errorf("Roomy, Whole: %v, %v", w, Whole(w))
	}
	before := Whole(w)
	Scramble(w)
	if reflect.DeepEqual(Whole(w), before) || !reflect.DeepEqual(Plain(v), kept) {
		t.Errorf("Scramble: %v, %v", w, v)
	}
	p := Steps("a", 3, uint64(4), api.Step{Name: "b", Id: 5})
	q := RoomyPath(p)
	if !slices.Equal(p, []api.Step{{Name: "a"}, {Id: 3}, {Id: 4}, {Name: "b", Id: 5}}) || !slices.Equal(p, q) || cap(q) < 6 {
		t.Errorf("Steps, RoomyPath: %v, %v", p, q)
	}
	ScramblePath(q)
	if slices.Equal(p, q) || slices.Contains(q[:6], api.Step{Id: 99}) || !slices.Equal(p, Steps("a", 3, 4, api.Step{Name: "b", Id: 5})) {
		t.Errorf("ScramblePath: %v, %v", p, q[:6])
	}
}

// TestSome: schemas are right, and values fit them; each kind, and lists without and with as many elements as may be, come.
func TestSome(t *testing.T) {
	r := rand.New(rand.NewPCG(1, 2026))
	kinds, sizes := map[int]int{}, map[int]int{}
	for range 2000 {
		s := SomeSchema(r.IntN, 1+r.IntN(5))
		v := SomeFit(r.IntN, s)
		if !schema.Right(s) || !schema.Fits(v, s) {
			t.Fatalf("%v, %v", s, v)
		}
		kinds[v.Kind]++
		if v.Kind == api.List {
			sizes[len(v.Ids)]++
		}
	}
	if len(kinds) != 6 || sizes[0] < 10 || sizes[api.MaxItems] < 10 {
		t.Errorf("%v %v", kinds, sizes)
	}
}
