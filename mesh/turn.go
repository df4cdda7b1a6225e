package mesh

import (
	"slices"

	"klippe/api"
)

// Turn returns a mesh with the two triangles at an edge divided the other way.
func Turn(m api.Mesh, edge [2]int) (api.Mesh, api.Errno) {
	s, e := read(m)
	if e != api.OK {
		return api.Mesh{}, e
	}
	var triangles, thirds []int
	for i, third := range s.beside(edge) {
		triangles, thirds = append(triangles, i), append(thirds, third)
	}
	switch {
	case len(triangles) == 0 || edge[0] > edge[1]:
		return api.Mesh{}, api.ErrNotFound
	case len(triangles) == 1:
		return api.Mesh{}, api.ErrOpen
	}
	u, v, p, q := edge[0], edge[1], thirds[0], thirds[1]
	first, second := api.Triangle{u, q, p}, api.Triangle{q, v, p}
	// The corners p and q are those of triangles; at u and v the new triangles tell it.
	if !s.isLeft(first) || !s.isLeft(second) {
		return api.Mesh{}, api.ErrForm
	}
	turned := api.Mesh{Points: slices.Clone(m.Points), Triangles: slices.Clone(m.Triangles)}
	turned.Triangles[min(triangles[0], triangles[1])] = first
	turned.Triangles[max(triangles[0], triangles[1])] = second
	return turned, api.OK
}
