package comps

// parents: the sets as trees: by number, the one above it; a root is its own.
type parents []int

func (p parents) holds(a int) bool { return a >= 0 && a < len(p) }

// root shortens no way while going it, so that asking changes nothing; ways are short all the same, since the smaller tree is hung below the greater one.
func (p parents) root(a int) int {
	for p[a] != a {
		a = p[a]
	}
	return a
}

func (p parents) hang(below, above int) { p[below] = above }

// tree is what a root knows of its set.
type tree struct {
	size, least int
}

func (t tree) with(other tree) tree {
	return tree{size: t.size + other.size, least: min(t.least, other.least)}
}

// has: a nil Sets has no parents to ask.
func (s *Sets) has(a int) bool { return s != nil && s.holds(a) }

// numbered: by number, the number of its set; sets are numbered by their least numbers, so that the least one of each comes by first.
func (s *Sets) numbered() []int {
	if s == nil {
		return nil
	}
	of := make([]int, len(s.parents))
	next := 0
	for a := range of {
		least := s.Least(a)
		if least == a {
			of[a] = next
			next++
			continue
		}
		of[a] = of[least]
	}
	return of
}
