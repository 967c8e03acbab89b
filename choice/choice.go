// Package choice takes decisions from lists of choices. They come from outside, so that a simulation can be repeated, and all its outcomes tried.
package choice

import "slices"

// Choices are the choices that are left.
type Choices struct{ left []int }

// From returns the choices of a list.
func From(list []int) *Choices {
	return &Choices{left: slices.Clone(list)}
}

// Decide takes a decision among n possibilities, which is from 0 to n - 1; n must be positive.
func (c *Choices) Decide(n int) int {
	if len(c.left) == 0 {
		return 0
	}
	first := c.left[0]
	c.left = c.left[1:]
	// The remainder of a negative number is not positive.
	return (first%n + n) % n
}

// Left returns the choices from which no decision was taken.
func (c *Choices) Left() []int {
	return slices.Clone(c.left)
}
