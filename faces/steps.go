package faces

import (
	"tangram/api"
	"tangram/rot"
)

// steps is, by half-edge, the next one of a rotation. Going on by from never leads astray: no two half-edges have one step, so one comes back to where one began.
type steps []int

// stepsOf: the errors of a rotation are those that rot finds, in their order.
func stepsOf(g api.Graph, r api.Rotation) (steps, api.Errno) { return rot.Next(g, r) }

// from: the step from h.
func (s steps) from(h int) int { return s[h^1] }

// round: the face of h, from h on.
func (s steps) round(h int) []int {
	face := []int{h}
	for k := s.from(h); k != h; k = s.from(k) {
		face = append(face, k)
	}
	return face
}

// faces: by number. A half-edge that no face ahead has is the least of its own.
func (s steps) faces() [][]int {
	var all [][]int
	walked := make([]bool, len(s))
	for h := range s {
		if walked[h] {
			continue
		}
		face := s.round(h)
		for _, k := range face {
			walked[k] = true
		}
		all = append(all, face)
	}
	return all
}
