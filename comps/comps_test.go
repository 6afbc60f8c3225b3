package comps_test

import (
	"math"
	"slices"
	"testing"

	"tangram/api"
	"tangram/comps"
	"tangram/probe"
)

func made(t *testing.T, n int) *comps.Sets {
	t.Helper()
	s, code := comps.New(n)
	if s == nil || code != api.OK {
		t.Fatalf("P5.1: New(%d): %v, %d", n, s, code)
	}
	return s
}

// lists: sets by definition: each the list of its numbers, rising; the lists rise by their first numbers.
type lists [][]int

func singles(n int) lists {
	var all lists
	for a := range n {
		all = append(all, []int{a})
	}
	return all
}

// place: which list holds a; -1: none.
func (l lists) place(a int) int {
	return slices.IndexFunc(l, func(set []int) bool { return slices.Contains(set, a) })
}

func (l lists) set(a int) []int {
	if i := l.place(a); i >= 0 {
		return l[i]
	}
	return nil
}

// join: the lists with those of a and b put together, and whether they were two.
func (l lists) join(a, b int) (lists, bool) {
	i, j := l.place(a), l.place(b)
	if i < 0 || j < 0 || i == j {
		return l, false
	}
	one := slices.Sorted(slices.Values(slices.Concat(l[i], l[j])))
	rest := lists{one}
	for k, set := range l {
		if k != i && k != j {
			rest = append(rest, set)
		}
	}
	slices.SortFunc(rest, func(x, y []int) int { return x[0] - y[0] })
	return rest, true
}

func equal(groups [][]int, want lists) bool {
	return slices.EqualFunc(groups, want, slices.Equal[[]int])
}

// agrees: the Sets of n numbers tells in all calls what the lists say, of what is no number too.
func agrees(t *testing.T, s *comps.Sets, n int, want lists) {
	t.Helper()
	if s.Count() != len(want) {
		t.Fatalf("P5.1: Count of %v: %d", want, s.Count())
	}
	if groups := s.Groups(); !equal(groups, want) {
		t.Fatalf("P5.1: Groups: %v, want %v", groups, want)
	}
	ask := []int{math.MinInt64, n + 1, 2*n + 2, api.MaxN, api.MaxN + 1, math.MaxInt64}
	for a := -2; a <= n; a++ {
		ask = append(ask, a)
	}
	for _, a := range ask {
		set := want.set(a)
		least := -1
		if len(set) > 0 {
			least = set[0]
		}
		if s.Least(a) != least || s.Size(a) != len(set) {
			t.Fatalf("P5.1: %v: Least(%d) %d, Size(%d) %d", want, a, s.Least(a), a, s.Size(a))
		}
		for _, b := range ask {
			if s.Same(a, b) != slices.Contains(set, b) {
				t.Fatalf("P5.1: %v: Same(%d, %d) is %v", want, a, b, s.Same(a, b))
			}
		}
	}
}

// joinsAsTold joins pairs one by one and asks everything behind each.
func joinsAsTold(t *testing.T, n int, pairs [][2]int) {
	t.Helper()
	s, want := made(t, n), singles(n)
	agrees(t, s, n, want)
	for i, p := range pairs {
		var were bool
		want, were = want.join(p[0], p[1])
		if got := s.Join(p[0], p[1]); got != were {
			t.Fatalf("P5.1: Join(%d, %d), the last of %v: %v", p[0], p[1], pairs[:i+1], got)
		}
		agrees(t, s, n, want)
	}
}

// square: all pairs of numbers from low to high, either one first, and of each with itself.
func square(low, high int) [][2]int {
	var all [][2]int
	for a := low; a <= high; a++ {
		for b := low; b <= high; b++ {
			all = append(all, [2]int{a, b})
		}
	}
	return all
}

func TestExamples(t *testing.T) {
	s := made(t, 5)
	for _, c := range []struct {
		a, b int
		want bool
	}{{3, 1, true}, {1, 3, false}, {4, 3, true}, {0, 5, false}, {-1, 0, false}} {
		if got := s.Join(c.a, c.b); got != c.want {
			t.Errorf("P5.1: Join(%d, %d): %v", c.a, c.b, got)
		}
	}
	if s.Least(4) != 1 || s.Least(5) != -1 {
		t.Errorf("P5.1: Least: %d, %d", s.Least(4), s.Least(5))
	}
	if !s.Same(1, 4) || s.Same(0, 2) || s.Same(5, 5) {
		t.Errorf("P5.1: Same: %v, %v, %v", s.Same(1, 4), s.Same(0, 2), s.Same(5, 5))
	}
	if s.Size(3) != 3 || s.Size(9) != 0 || s.Count() != 3 {
		t.Errorf("P5.1: Size: %d, %d; Count: %d", s.Size(3), s.Size(9), s.Count())
	}
	agrees(t, s, 5, lists{{0}, {1, 3, 4}, {2}})
}

func TestNew(t *testing.T) {
	for _, n := range []int{-1, -2, -api.MaxN, math.MinInt64, api.MaxN + 1, 2 * api.MaxN, math.MaxInt64} {
		if s, code := comps.New(n); s != nil || code != api.ErrRange {
			t.Errorf("P5.1: New(%d): %v, %d", n, s != nil, code)
		}
	}
	for n := range 9 {
		agrees(t, made(t, n), n, singles(n))
	}
	s := made(t, api.MaxN)
	if s.Count() != api.MaxN || s.Least(api.MaxN-1) != api.MaxN-1 || s.Size(api.MaxN-1) != 1 || !s.Same(0, 0) || s.Same(0, api.MaxN-1) {
		t.Error("P5.1: New of MaxN")
	}
	if s.Least(api.MaxN) != -1 || s.Size(api.MaxN) != 0 || s.Same(api.MaxN, api.MaxN) || s.Join(api.MaxN, 0) || s.Join(0, api.MaxN) {
		t.Error("P5.1: MaxN is no number of New(MaxN)")
	}
	if s, code := comps.New(api.MaxN - 1); s.Count() != api.MaxN-1 || code != api.OK {
		t.Errorf("P5.1: New(MaxN - 1): %d sets, %d", s.Count(), code)
	}
}

func TestJoinsOfFewNumbers(t *testing.T) {
	for n := range 3 {
		for _, pairs := range probe.Lists(square(-1, n), 2) {
			joinsAsTold(t, n, pairs)
		}
	}
	for _, pairs := range probe.Lists(square(0, 2), 3) {
		joinsAsTold(t, 3, pairs)
	}
	for _, pairs := range probe.Lists(probe.Complete(5).Edges, 4) {
		var list [][2]int
		for _, e := range pairs {
			list = append(list, [2]int{e.V, e.U})
		}
		if len(list) == 4 {
			joinsAsTold(t, 5, list)
		}
	}
}

func TestJoinsOfMoreNumbers(t *testing.T) {
	d := probe.Dice(5)
	for range 60 {
		n := 1 + d.Below(24)
		pairs := d.Pairs(n, 2*n)
		for i := range pairs {
			if d.Below(8) == 0 {
				pairs[i][d.Below(2)] = []int{-1, n, n + 1, math.MinInt64, math.MaxInt64}[d.Below(5)]
			}
		}
		joinsAsTold(t, n, pairs)
	}
}

// TestWrongNumbers: a Join that can't be changes nothing, whichever of the two is wrong.
func TestWrongNumbers(t *testing.T) {
	s := made(t, 6)
	s.Join(5, 2)
	s.Join(0, 4)
	want := lists{{0, 4}, {1}, {2, 5}, {3}}
	wrong := []int{-1, 6, 7, -6, api.MaxN, math.MinInt64, math.MaxInt64}
	for _, a := range wrong {
		for b := range 6 {
			if s.Join(a, b) || s.Join(b, a) {
				t.Fatalf("P5.1: Join of %d and %d is true", a, b)
			}
		}
		for _, b := range wrong {
			if s.Join(a, b) {
				t.Fatalf("P5.1: Join(%d, %d) is true", a, b)
			}
		}
		agrees(t, s, 6, want)
	}
}

// joined: a Sets behind these joins, and how many of them were true.
func joined(t *testing.T, n int, pairs [][2]int) (*comps.Sets, int) {
	t.Helper()
	s, count := made(t, n), 0
	for _, p := range pairs {
		if s.Join(p[0], p[1]) {
			count++
		}
	}
	return s, count
}

// alike: both tell the same in all calls.
func alike(t *testing.T, s, other *comps.Sets, n int, pairs [][2]int) {
	t.Helper()
	if s.Count() != other.Count() || !equal(s.Groups(), other.Groups()) {
		t.Fatalf("P5.2: %v in another order: %v, %v", pairs, s.Groups(), other.Groups())
	}
	for a := -1; a <= n; a++ {
		if s.Least(a) != other.Least(a) || s.Size(a) != other.Size(a) {
			t.Fatalf("P5.2: %v in another order: of %d Least %d, %d, Size %d, %d", pairs, a, s.Least(a), other.Least(a), s.Size(a), other.Size(a))
		}
		for b := -1; b <= n; b++ {
			if s.Same(a, b) != other.Same(a, b) {
				t.Fatalf("P5.2: %v in another order: Same(%d, %d)", pairs, a, b)
			}
		}
	}
}

// turned: each pair the other way round, if its digit of ways is 1.
func turned(pairs [][2]int, ways int) [][2]int {
	list := slices.Clone(pairs)
	for i, p := range list {
		if ways>>i&1 == 1 {
			list[i] = [2]int{p[1], p[0]}
		}
	}
	return list
}

func TestOrderOfJoins(t *testing.T) {
	for _, g := range slices.Concat(probe.Graphs(4), []api.Graph{probe.Path(6), probe.Star(6, 3), probe.Cycle(5), probe.Beside(probe.Path(3), probe.Path(4))}) {
		if len(g.Edges) > 5 {
			continue
		}
		var pairs [][2]int
		for _, e := range g.Edges {
			pairs = append(pairs, [2]int{e.U, e.V})
		}
		s, count := joined(t, g.N, pairs)
		if s.Count() != g.N-count {
			t.Fatalf("P5.2: %v: Count %d behind %d joins", pairs, s.Count(), count)
		}
		for k, order := range probe.Arranged(pairs) {
			for _, ways := range []int{0, k, 31} {
				other, others := joined(t, g.N, turned(order, ways))
				alike(t, s, other, g.N, order)
				if others != count {
					t.Fatalf("P5.2: %v: %d joins are true, in another order %d", pairs, others, count)
				}
			}
		}
	}
}

func TestOrderOfManyJoins(t *testing.T) {
	d := probe.Dice(9)
	for range 60 {
		g := d.Graph(2+d.Below(40), 1+d.Below(8))
		first := d.Disorder(g)
		s, count := joined(t, g.N, first)
		if s.Count() != g.N-count {
			t.Fatalf("P5.2: %v: Count %d behind %d joins", first, s.Count(), count)
		}
		for range 5 {
			other, others := joined(t, g.N, d.Disorder(g))
			alike(t, s, other, g.N, first)
			if others != count {
				t.Fatalf("P5.2: %v: %d joins are true, in another order %d", first, count, others)
			}
		}
	}
}

// TestAsking: what is asked changes nothing, whatever is asked between.
func TestAsking(t *testing.T) {
	d := probe.Dice(3)
	for range 50 {
		n := 2 + d.Below(15)
		pairs := d.Pairs(n, n)
		plain, _ := joined(t, n, pairs)
		asked := made(t, n)
		for _, p := range pairs {
			for range 6 {
				a, b := d.Below(n+2)-1, d.Below(n+2)-1
				asked.Least(a)
				asked.Same(a, b)
				asked.Size(b)
				asked.Groups()
				asked.Count()
			}
			asked.Join(p[0], p[1])
		}
		alike(t, plain, asked, n, pairs)
	}
}

// greatJoins: orders of joins that make one set of n numbers, n a power of two.
func greatJoins(n int) map[string]func(join func(a, b int)) {
	return map[string]func(join func(a, b int)){
		"rising": func(join func(a, b int)) {
			for a := range n - 1 {
				join(a, a+1)
			}
		},
		"falling": func(join func(a, b int)) {
			for a := n - 1; a > 0; a-- {
				join(a, a-1)
			}
		},
		"round the last": func(join func(a, b int)) {
			for a := range n - 1 {
				join(a, n-1)
			}
		},
		"by twos": func(join func(a, b int)) {
			for step := 1; step < n; step *= 2 {
				for a := 0; a < n; a += 2 * step {
					join(a+2*step-1, a)
				}
			}
		},
	}
}

func TestMostNumbers(t *testing.T) {
	const n = api.MaxN
	for name, joins := range greatJoins(n) {
		s, count := made(t, n), 0
		joins(func(a, b int) {
			if s.Join(a, b) {
				count++
			}
			if s.Count() != n-count || !s.Same(a, b) || s.Least(a) > min(a, b) || s.Size(a) < 2 {
				t.Fatalf("P5.2: %s: behind Join(%d, %d): Count %d, Least %d, Size %d", name, a, b, s.Count(), s.Least(a), s.Size(a))
			}
		})
		for a := range n {
			if s.Least(a) != 0 || s.Size(a) != n || !s.Same(a, n-1-a) {
				t.Fatalf("P5.1: %s: of %d: Least %d, Size %d", name, a, s.Least(a), s.Size(a))
			}
		}
		groups := s.Groups()
		if count != n-1 || len(groups) != 1 || len(groups[0]) != n || !slices.IsSorted(groups[0]) || s.Join(0, n-1) {
			t.Fatalf("P5.1: %s: %d joins, %d groups", name, count, len(groups))
		}
	}
}

func TestGroupsOfMostNumbers(t *testing.T) {
	const n = api.MaxN
	s := made(t, n)
	for a := range n / 2 {
		s.Join(a, n-1-a)
	}
	groups := s.Groups()
	if len(groups) != n/2 || s.Count() != n/2 {
		t.Fatalf("P5.1: %d groups of two, Count %d", len(groups), s.Count())
	}
	for a, group := range groups {
		if !slices.Equal(group, []int{a, n - 1 - a}) {
			t.Fatalf("P5.1: group %d: %v", a, group)
		}
	}
}

func TestNil(t *testing.T) {
	var none *comps.Sets
	for _, s := range []*comps.Sets{none, made(t, 0)} {
		ask := []int{0, 1, -1, 9, api.MaxN, math.MinInt64, math.MaxInt64}
		for _, a := range ask {
			for _, b := range ask {
				if s.Join(a, b) || s.Same(a, b) {
					t.Errorf("R6: Join or Same of %d and %d", a, b)
				}
			}
		}
		if len(s.Groups()) != 0 || s.Count() != 0 {
			t.Errorf("R6: Groups %v, Count %d", s.Groups(), s.Count())
		}
		agrees(t, s, 0, nil)
	}
}

// spoil writes over a list, its spare room too, and appends to it.
func spoil(list []int) {
	all := list[:cap(list)]
	for i := range all {
		all[i] = -77
	}
	_ = append(list, -78, -79)
}

func TestGroupsAreNewMemory(t *testing.T) {
	d := probe.Dice(21)
	for range 40 {
		n := 1 + d.Below(15)
		s, want := made(t, n), singles(n)
		for _, p := range d.Pairs(n, d.Below(n)) {
			s.Join(p[0], p[1])
			want, _ = want.join(p[0], p[1])
		}
		kept := s.Groups()
		for i := range want {
			groups := s.Groups()
			spoil(groups[i])
			for k, group := range groups {
				if k != i && !slices.Equal(group, want[k]) {
					t.Fatalf("P5.4: R5: group %d written over, and group %d is %v, want %v", i, k, group, want[k])
				}
			}
			_ = append(groups, []int{-1})
			clear(groups[:cap(groups)])
		}
		if !equal(kept, want) {
			t.Fatalf("P5.4: R5: another answer of Groups is changed: %v, want %v", kept, want)
		}
		agrees(t, s, n, want)
	}
}

func TestGroupsOfEarlier(t *testing.T) {
	s := made(t, 4)
	early := s.Groups()
	s.Join(0, 3)
	s.Join(1, 2)
	if !equal(early, singles(4)) {
		t.Errorf("P5.4: R5: Groups of ahead of the Joins: %v", early)
	}
	agrees(t, s, 4, lists{{0, 3}, {1, 2}})
}

func TestSetsHangOnTheirJoinsAlone(t *testing.T) {
	d := probe.Dice(33)
	var all []*comps.Sets
	var wants []lists
	for n := range 12 {
		all = append(all, made(t, n))
		wants = append(wants, singles(n))
	}
	for range 200 {
		n := 1 + d.Below(11)
		a, b := d.Below(n), d.Below(n)
		all[n].Join(a, b)
		wants[n], _ = wants[n].join(a, b)
		comps.Of(d.Graph(n, 30))
		comps.New(-n)
	}
	for n, s := range all {
		agrees(t, s, n, wants[n])
		if fresh := made(t, n); fresh.Count() != n {
			t.Errorf("R8: a new Sets of %d has %d sets", n, fresh.Count())
		}
	}
}
