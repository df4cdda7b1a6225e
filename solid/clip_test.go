package solid

import (
	"math/rand"
	"slices"
	"testing"

	"klippe/api"
	"klippe/rational"
	"klippe/vector"
)

// turned returns a plane with the other outer side.
func turned(p api.Plane) api.Plane {
	normal, _ := vector.Scale(p.Normal, "-1")
	return api.Plane{Normal: normal, Offset: rational.Neg(p.Offset)}
}

func TestClip(t *testing.T) {
	half := with(box(), func(s *Solid) {
		s.Planes[5].Offset = "1/2"
		for i := range 4 {
			s.Vertices[4+i].X = "1/2"
		}
	})
	rest := with(box(), func(s *Solid) {
		s.Planes[0].Offset = "-1/2"
		for i := range 4 {
			s.Vertices[i].X = "1/2"
		}
	})
	for _, c := range []struct {
		plane string
		inner []Solid
		outer []Solid
	}{
		{"1 0 0 1/2", []Solid{half}, []Solid{rest}}, {"4/3 0 0 2/3", []Solid{half}, []Solid{rest}}, {"-3 0 0 -3/2", []Solid{rest}, []Solid{half}},
		// Along a face, an edge, a corner, and outside.
		{"1 0 0 0", nil, []Solid{box()}}, {"1 0 0 1", []Solid{box()}, nil}, {"1/2 0 0 1/2", []Solid{box()}, nil}, {"1 1 0 3", []Solid{box()}, nil}, {"1 1 0 0", nil, []Solid{box()}}, {"1 1 1 6", []Solid{box()}, nil}, {"1 1 1 0", nil, []Solid{box()}}, {"1 2 3 99", []Solid{box()}, nil}, {"1 2 3 -1", nil, []Solid{box()}},
	} {
		s, p := box(), planeOf(c.plane)
		part, some, e := Clip(s, p)
		inner, outer, e2 := Split(s, p)
		if len(c.inner) == 0 && (some || !isEmpty(part)) || len(c.inner) == 1 && !(some && Equal(part, c.inner[0])) || e != api.OK {
			t.Errorf("Clip(%s) = %v, %t, %d", c.plane, part, some, e)
		}
		if !slices.EqualFunc(inner, c.inner, Equal) || !slices.EqualFunc(outer, c.outer, Equal) || e2 != api.OK || !Equal(s, box()) {
			t.Errorf("Split(%s) = %v, %v, %d", c.plane, inner, outer, e2)
		}
	}
	if volume, e := Volume(half); volume != "3" || e != api.OK {
		t.Errorf("Volume = %s, %d", volume, e)
	}
}

// TestClipMemory changes the parts, to find out whether they share memory with the solid.
func TestClipMemory(t *testing.T) {
	s := box()
	part, _, _ := Clip(s, planeOf("1 1 1 99"))
	inner, outer, _ := Split(s, planeOf("1 1 1 1"))
	_, whole, _ := Split(s, planeOf("1 1 1 -7"))
	for _, a := range []Solid{part, inner[0], outer[0], whole[0]} {
		a.Planes[0].Offset, a.Vertices[0].X = "9", "9"
		for _, around := range a.Faces {
			around[0] = 9
		}
	}
	if !Equal(s, box()) {
		t.Errorf("%v has changed", s)
	}
}

func TestClipErrors(t *testing.T) {
	check := func(s Solid, p api.Plane, want api.Errno) {
		t.Helper()
		part, some, e := Clip(s, p)
		inner, outer, e2 := Split(s, p)
		if !isEmpty(part) || some || inner != nil || outer != nil || e != want || e2 != want {
			t.Errorf("%d and %d, not %d, for %v and %v", e, e2, want, s, p)
		}
	}
	bad := with(box(), func(s *Solid) { s.Faces = nil })
	check(box(), planeOf("0 0 0 1"), api.ErrZero)
	check(bad, planeOf("0 0 0 1"), api.ErrForm)
	check(Solid{}, planeOf("1 0 0 1/2"), api.ErrUnbounded)
	for _, x := range notRight {
		for _, p := range []api.Plane{{Normal: api.Vector{X: x, Y: "0", Z: "0"}, Offset: "0"}, {Normal: api.Vector{X: "0", Y: x, Z: "0"}, Offset: "0"}, {Normal: api.Vector{X: "0", Y: "0", Z: x}, Offset: "0"}, {Normal: zero, Offset: x}} {
			check(box(), p, api.ErrNumber)
			check(bad, p, api.ErrForm)
		}
	}
	check(box(), api.Plane{Normal: vector.Of(7, 0, 0), Offset: "1/" + most}, api.ErrLimit)
	check(box(), api.Plane{Normal: api.Vector{X: "1/" + most, Y: "1/7", Z: "0"}, Offset: "1/13"}, api.ErrLimit)
	// A plane with long numbers that cuts nothing is none of the solid.
	for _, p := range []api.Plane{{Normal: api.Vector{X: "1/" + most, Y: "1/7", Z: "1/11"}, Offset: "11"}, {Normal: vector.Of(7, 0, 0), Offset: most}} {
		part, some, e := Clip(box(), p)
		inner, outer, e2 := Split(box(), turned(p))
		if !some || !Equal(part, box()) || e != api.OK || inner != nil || len(outer) != 1 || !Equal(outer[0], box()) || e2 != api.OK {
			t.Errorf("Clip = %v, %t, %d, and Split: %d", part, some, e, e2)
		}
	}
}

// bowl returns a solid with some faces: tangents of the bowl with the heights x x + y y, and a lid.
func bowl(t *testing.T, faces int) Solid {
	t.Helper()
	l := planes("0 0 1 100")
	for i := range faces - 1 {
		x, y := i%7-3, i/7-2
		l = append(l, api.Plane{Normal: vector.Of(2*x, 2*y, -1), Offset: rational.Whole(x*x + y*y)})
	}
	s, e := Of(l)
	if e != api.OK || len(s.Faces) != faces {
		t.Fatalf("a solid with %d faces, %d", len(s.Faces), e)
	}
	return s
}

// corner0 returns a plane that cuts off the first corner alone.
func corner0(s Solid) api.Plane {
	normal := zero
	for i, p := range s.Planes {
		if slices.Contains(s.Faces[i], 0) {
			normal, _ = vector.Add(normal, p.Normal)
		}
	}
	offset, _ := vector.Dot(normal, s.Vertices[0])
	return api.Plane{Normal: normal, Offset: rational.Sub(offset, "1/1000")}
}

// TestClipLimit cuts off a corner of a solid with as many faces as there can be.
func TestClipLimit(t *testing.T) {
	for faces, want := range map[int]api.Errno{38: api.OK, 39: api.OK, 40: api.ErrLimit} {
		s := bowl(t, faces)
		p := corner0(s)
		part, some, e := Clip(s, p)
		inner, outer, e2 := Split(s, p)
		if want == api.OK && (len(part.Faces) != faces+1 || len(inner) != 1 || len(outer) != 1 || Check(part) != api.OK) || some != (want == api.OK) || e != want || e2 != want {
			t.Errorf("Clip = %d faces, %t, %d; Split: %d", len(part.Faces), some, e, e2)
		}
		_, outer, e3 := Split(s, turned(p))
		small, some, e4 := Clip(s, turned(p))
		if want != api.OK && outer != nil || e3 != want || !some || e4 != api.OK || len(small.Faces) < 4 {
			t.Errorf("Split: %d; Clip = %d faces, %t, %d", e3, len(small.Faces), some, e4)
		}
	}
}

// TestClipLaws compares with the solids of all planes, and adds up volumes and centres.
func TestClipLaws(t *testing.T) {
	r := rand.New(rand.NewSource(4))
	count := [3]int{}
	for range 400 {
		s, p := anySolid(r), anyPlanes(r, 1)[0]
		switch r.Intn(4) {
		case 0:
			at := s.Vertices[r.Intn(len(s.Vertices))]
			p.Offset, _ = vector.Dot(p.Normal, at)
		case 1:
			p, _ = vector.Spanned(s.Vertices[0], s.Vertices[1], s.Vertices[len(s.Vertices)-1])
		}
		if vector.CheckPlane(p) != api.OK {
			continue
		}
		inner, outer, e := Split(s, p)
		if e != api.OK || len(inner)+len(outer) == 0 {
			t.Fatalf("Split(%v, %v) = %v, %v, %d", s, p, inner, outer, e)
		}
		count[len(inner)+len(outer)]++
		volume, moment := api.Rational("0"), zero
		for i, found := range [][]Solid{inner, outer} {
			if i == 1 {
				p = turned(p)
			}
			want, e := Of(slices.Concat(s.Planes, []api.Plane{p}))
			part, some, e2 := Clip(s, p)
			if len(found) > 1 || some != (len(found) == 1) || some != (e == api.OK) || !Equal(part, want) || e2 != api.OK || some && !Equal(part, found[0]) {
				t.Fatalf("Clip(%v, %v) = %v, %t, %d, not %v", s, p, part, some, e2, want)
			}
			if some {
				size, _ := Volume(part)
				centre, _ := Centroid(part)
				centre, _ = vector.Scale(centre, size)
				volume = rational.Add(volume, size)
				moment, _ = vector.Add(moment, centre)
			}
		}
		share, _ := rational.Div("1", volume)
		middle, _ := vector.Scale(moment, share)
		whole, _ := Volume(s)
		if centre, _ := Centroid(s); whole != volume || centre != middle {
			t.Fatalf("the parts of %v at %v have the volume %s and the centre %v", s, p, volume, middle)
		}
	}
	if min(count[1], count[2]) < 50 {
		t.Errorf("%v", count)
	}
}
