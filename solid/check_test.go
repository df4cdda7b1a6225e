package solid

import (
	"math/rand"
	"slices"
	"testing"

	"klippe/api"
	"klippe/rational"
	"klippe/vector"
)

// with returns a copy of a solid, with something changed.
func with(s Solid, change func(s *Solid)) Solid {
	s = clone(s)
	change(&s)
	return s
}

func TestCheck(t *testing.T) {
	for _, s := range []Solid{box(), pyramid()} {
		if e := Check(s); e != api.OK {
			t.Errorf("Check(%v) = %d", s, e)
		}
	}
	if e := Check(Solid{}); e != api.ErrUnbounded {
		t.Errorf("Check of nothing = %d", e)
	}
	for i, c := range []struct {
		change func(s *Solid)
		want   api.Errno
	}{
		// Planes that have another error.
		{func(s *Solid) { s.Planes[3].Offset = "2/4" }, api.ErrNumber},
		{func(s *Solid) { s.Planes[3].Normal = zero }, api.ErrZero},
		{func(s *Solid) { s.Planes[3].Normal, s.Planes[5].Offset = zero, "" }, api.ErrNumber},
		{func(s *Solid) { s.Planes = slices.Repeat(s.Planes, 7) }, api.ErrLimit},
		{func(s *Solid) { s.Planes = s.Planes[1:] }, api.ErrUnbounded},
		{func(s *Solid) { s.Planes[3].Normal.Z = "-1" }, api.ErrUnbounded},
		{func(s *Solid) { s.Planes[3].Offset = "-1" }, api.ErrEmpty},
		{func(s *Solid) { s.Planes[3].Offset = "0" }, api.ErrEmpty},
		{func(s *Solid) { s.Planes[3] = api.Plane{Normal: vector.Of(1, 1, 1), Offset: "1/" + most} }, api.ErrForm},
		// Planes of the same solid, or of another one.
		{func(s *Solid) { s.Planes[0].Normal.X = "-2" }, api.ErrForm},
		{func(s *Solid) { s.Planes[1].Normal.Y = "-1/2" }, api.ErrForm},
		{func(s *Solid) { s.Planes[3].Offset = "4" }, api.ErrForm},
		{func(s *Solid) { s.Planes[3].Offset = "2" }, api.ErrForm},
		{func(s *Solid) { slices.Reverse(s.Planes) }, api.ErrForm},
		{func(s *Solid) { s.Planes = append(s.Planes, planeOf("1 1 1 6")) }, api.ErrForm},
		{func(s *Solid) { s.Planes = append(s.Planes, planeOf("1 0 0 1")) }, api.ErrForm},
		{func(s *Solid) {
			s.Planes = append(s.Planes, planeOf("1 1 0 3"))
			s.Faces = append(s.Faces, []int{6, 7})
		}, api.ErrForm},
		{func(s *Solid) { s.Planes = append(s.Planes, planeOf("1 1 0 4")); s.Faces = append(s.Faces, nil) }, api.ErrForm},
		{func(s *Solid) { s.Planes[3] = api.Plane{Normal: vector.Of(0, 0, 7), Offset: "1/" + most} }, api.ErrLimit},
		// Other vertices.
		{func(s *Solid) { s.Vertices = nil }, api.ErrForm},
		{func(s *Solid) { s.Vertices = s.Vertices[:7] }, api.ErrForm},
		{func(s *Solid) { s.Vertices = append(s.Vertices, v("1 2 3")) }, api.ErrForm},
		{func(s *Solid) { s.Vertices = append(s.Vertices, v("2 2 3")) }, api.ErrForm},
		{func(s *Solid) { s.Vertices[7].X = "2/2" }, api.ErrForm},
		{func(s *Solid) { s.Vertices[7].X = "" }, api.ErrForm},
		{func(s *Solid) { s.Vertices[7].X = "2" }, api.ErrForm},
		{func(s *Solid) { s.Vertices[7].Z = "5/2" }, api.ErrForm},
		{func(s *Solid) { s.Vertices[1], s.Vertices[2] = s.Vertices[2], s.Vertices[1] }, api.ErrForm},
		{func(s *Solid) { s.Vertices = slices.Insert(s.Vertices, 4, v("1/2 1 1")) }, api.ErrForm},
		// Other faces.
		{func(s *Solid) { s.Faces = nil }, api.ErrForm},
		{func(s *Solid) { s.Faces = s.Faces[:5] }, api.ErrForm},
		{func(s *Solid) { s.Faces = append(s.Faces, []int{4, 6, 7, 5}) }, api.ErrForm},
		{func(s *Solid) { s.Faces[5] = nil }, api.ErrForm},
		{func(s *Solid) { s.Faces[5] = []int{6, 7, 5, 4} }, api.ErrForm},
		{func(s *Solid) { s.Faces[5] = []int{4, 5, 7, 6} }, api.ErrForm},
		{func(s *Solid) { s.Faces[5] = []int{4, 6, 5, 7} }, api.ErrForm},
		{func(s *Solid) { s.Faces[5] = []int{4, 6, 7} }, api.ErrForm},
		{func(s *Solid) { s.Faces[5] = []int{4, 6, 7, 5, 4} }, api.ErrForm},
		{func(s *Solid) { s.Faces[5] = []int{4, 6, 7, 5, 4, 6, 7, 5} }, api.ErrForm},
		{func(s *Solid) { s.Faces[5] = []int{4, 6, 7, 8} }, api.ErrForm},
		{func(s *Solid) { s.Faces[5] = []int{-1, 6, 7, 5} }, api.ErrForm},
		{func(s *Solid) { s.Faces[5] = []int{4, 6, 7, 3} }, api.ErrForm},
		{func(s *Solid) { s.Faces[4], s.Faces[5] = s.Faces[5], s.Faces[4] }, api.ErrForm},
	} {
		s := with(box(), c.change)
		before := clone(s)
		if e := Check(s); e != c.want || !Equal(s, before) {
			t.Errorf("%d: Check(%v) = %d, not %d", i, s, e, c.want)
		}
	}
	for _, x := range notRight {
		for i := range box().Planes {
			if e := Check(with(box(), func(s *Solid) { s.Planes[i].Normal.Y, s.Faces = x, nil })); e != api.ErrNumber {
				t.Errorf("Check with %s = %d", x, e)
			}
		}
	}
}

// TestCheckNearly has data that are right but for one thing, which is in order with everything else.
func TestCheckNearly(t *testing.T) {
	// One more vertex, with the indices of those behind it.
	further := func(at string) Solid {
		return with(box(), func(s *Solid) {
			s.Vertices = slices.Insert(s.Vertices, 4, v(at))
			for _, around := range s.Faces {
				for k, i := range around {
					if i > 3 {
						around[k]++
					}
				}
			}
		})
	}
	// Two planes that are exchanged together with their faces.
	exchanged := with(box(), func(s *Solid) {
		s.Planes[1], s.Planes[2] = s.Planes[2], s.Planes[1]
		s.Faces[1], s.Faces[2] = s.Faces[2], s.Faces[1]
	})
	// A face that is twice there, together with its plane.
	twice := with(box(), func(s *Solid) {
		s.Planes, s.Faces = append(s.Planes, s.Planes[5]), append(s.Faces, s.Faces[5])
	})
	// A face with six corners in an order in which every second pair is a side.
	six, e := Of(planes("0 0 1 1, 0 0 -1 0, 1 0 0 2, -1 0 0 2, 1 1 0 3, -1 -1 0 3, 0 1 0 2, 0 -1 0 2"))
	if e != api.OK || Check(six) != api.OK {
		t.Fatalf("Of = %v, %d", six, e)
	}
	mixed := with(six, func(s *Solid) {
		for i, f := range s.Faces {
			if len(f) == 6 {
				s.Faces[i] = []int{f[0], f[1], f[4], f[5], f[2], f[3]}
			}
		}
	})
	for i, s := range []Solid{further("1/2 1 1"), further("1/2 1 3"), further("1/2 2 3"), exchanged, twice, mixed} {
		if e := Check(s); e != api.ErrForm {
			t.Errorf("%d: Check(%v) = %d", i, s, e)
		}
	}
	// The normal of the last face has one digit too many.
	long := api.Vector{X: "1", Y: "7", Z: rational.Mul("7", most)}
	s := with(pyramid(), func(s *Solid) {
		s.Planes[3] = api.Plane{Normal: long, Offset: "7"}
		s.Vertices[1].Z, s.Vertices[3].X = "1/"+most, "7"
	})
	if e := Check(s); e != api.ErrNumber {
		t.Errorf("Check(%v) = %d", s, e)
	}
}

// TestCheckFlat has the data of solids without an inside.
func TestCheckFlat(t *testing.T) {
	square := vectors("0 0 0, 0 2 0, 1 0 0, 1 2 0")
	for _, c := range []struct {
		s    Solid
		want api.Errno
	}{
		{Solid{planes("0 0 -1 0, 0 0 1 0"), square, [][]int{{0, 1, 3, 2}, {0, 2, 3, 1}}}, api.ErrUnbounded},
		{Solid{planes("-1 0 0 0, 0 -1 0 0, 0 0 -1 0, 0 0 1 0, 0 1 0 2, 1 0 0 1"), square, [][]int{{0, 1}, {0, 2}, {0, 1, 3, 2}, {0, 2, 3, 1}, {1, 3}, {2, 3}}}, api.ErrEmpty},
		{Solid{planes("0 0 1 0"), square, [][]int{{0, 2, 3, 1}}}, api.ErrUnbounded},
		{Solid{planes("-1 0 0 0, 0 -1 0 0, 0 0 -1 0"), vectors("0 0 0, 0 0 1, 0 1 0, 1 0 0"), [][]int{{0, 1, 2}, {0, 3, 1}, {0, 2, 3}}}, api.ErrUnbounded},
		{Solid{Vertices: square}, api.ErrUnbounded},
		{Solid{Faces: [][]int{{0, 1, 2}}}, api.ErrUnbounded},
	} {
		if e := Check(c.s); e != c.want {
			t.Errorf("Check(%v) = %d, not %d", c.s, e, c.want)
		}
	}
}

// TestCheckLaws changes one thing of a random solid, and compares with what Of returns.
func TestCheckLaws(t *testing.T) {
	r := rand.New(rand.NewSource(3))
	count := map[api.Errno]int{}
	for range 1500 {
		s := with(anySolid(r), func(s *Solid) { spoil(r, s) })
		made, want := Of(s.Planes)
		if want == api.OK && !Equal(made, s) {
			want = api.ErrForm
		}
		e := Check(s)
		count[e]++
		if e != want {
			t.Fatalf("Check(%v) = %d, not %d", s, e, want)
		}
	}
	if len(count) < 4 {
		t.Errorf("%v", count)
	}
}

// spoil changes one thing; sometimes this is as it was before.
func spoil(r *rand.Rand, s *Solid) {
	i, j := r.Intn(len(s.Planes)), r.Intn(len(s.Vertices))
	around := s.Faces[i]
	k := r.Intn(len(around))
	switch r.Intn(12) {
	case 0:
		s.Planes[i].Offset = rational.Add(s.Planes[i].Offset, "1/2")
	case 1:
		s.Planes[i].Offset = rational.Sub(s.Planes[i].Offset, "1/2")
	case 2:
		s.Planes[i].Normal = vector.Of(r.Intn(5)-2, r.Intn(5)-2, r.Intn(5)-2)
	case 3:
		s.Vertices[j] = s.Vertices[r.Intn(len(s.Vertices))]
	case 4:
		s.Vertices[j].Z = rational.Add(s.Vertices[j].Z, "1/2")
	case 5:
		s.Faces[i] = append(around[:k], around[k+1:]...)
	case 6:
		s.Faces[i] = append(around, r.Intn(len(s.Vertices)))
	case 7:
		around[k] = r.Intn(len(s.Vertices))
	case 8:
		slices.Reverse(around[r.Intn(2):])
	case 9:
		around[0], around[k] = around[k], around[0]
	case 10:
		s.Planes, s.Faces = slices.Delete(s.Planes, i, i+1), slices.Delete(s.Faces, i, i+1)
	case 11:
		l := slices.Insert(s.Faces, i, around)
		s.Planes, s.Faces = slices.Insert(s.Planes, i, anyPlanes(r, 1)[0]), l
	}
}

func TestEqual(t *testing.T) {
	if !Equal(box(), box()) || !Equal(Solid{}, Solid{}) || Equal(box(), pyramid()) || Equal(Solid{}, box()) {
		t.Error("Equal")
	}
	if !Equal(Solid{}, Solid{Planes: []api.Plane{}, Vertices: []api.Vector{}, Faces: [][]int{}}) || !Equal(Solid{Faces: [][]int{nil}}, Solid{Faces: [][]int{{}}}) {
		t.Error("Equal of nothing")
	}
	for i, change := range []func(s *Solid){
		func(s *Solid) { s.Planes[5].Offset = "" }, func(s *Solid) { s.Planes = s.Planes[1:] }, func(s *Solid) { s.Vertices[0].Z = "1" }, func(s *Solid) { s.Vertices = s.Vertices[:7] },
		func(s *Solid) { s.Faces[5][3] = 9 }, func(s *Solid) { s.Faces[5] = s.Faces[5][:3] }, func(s *Solid) { s.Faces = s.Faces[:5] },
	} {
		if s := with(box(), change); Equal(s, box()) || Equal(box(), s) || !Equal(s, s) {
			t.Errorf("%d: Equal to %v", i, s)
		}
	}
}
