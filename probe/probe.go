// Package probe makes inputs for the tests of all layers; no layer calls it.
package probe

// Texts: all texts of at most so many of these bytes, the shortest first.
func Texts(alphabet string, most int) []string {
	var all []string
	for _, text := range Lists([]byte(alphabet), most) {
		all = append(all, string(text))
	}
	return all
}

// Dice throws numbers: from one starting value the same ones in every run, so that a test that fails fails again.
type Dice uint64

// Below: a number from 0 to n - 1.
func (d *Dice) Below(n int) int {
	*d = *d*6364136223846793005 + 1442695040888963407
	return int(uint64(*d)>>33) % n
}

// Pairs: m pairs of numbers from 0 to n - 1.
func (d *Dice) Pairs(n, m int) [][2]int {
	list := make([][2]int, m)
	for i := range list {
		list[i] = [2]int{d.Below(n), d.Below(n)}
	}
	return list
}
