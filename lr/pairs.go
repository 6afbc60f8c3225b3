package lr

// interval: back edges that are on one side, from the one that leads to the greatest height down to the one that leads to the least; those between are found by sides.like.
type interval struct {
	high, low int
}

func noInterval() interval { return interval{high: none, low: none} }

func (i interval) empty() bool { return i == noInterval() }

// pair is a conflict pair: the edges of one of its intervals are on another side than those of the other one. Which of the two sides is called left is open till all constraints are known.
type pair struct {
	left, right interval
}

func noPair() pair { return pair{left: noInterval(), right: noInterval()} }

func (p pair) turned() pair { return pair{left: p.right, right: p.left} }
