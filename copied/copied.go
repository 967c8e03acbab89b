// Package copied copies values together with everything that they reach, so that results share no memory with arguments.
package copied

import (
	"slices"

	"standby/api"
)

// Write returns a copy of a write.
func Write(w api.Write) api.Write {
	w.Data = slices.Clone(w.Data)
	return w
}

// Writes returns copies of the writes of a list.
func Writes(l []api.Write) []api.Write {
	return All(l, Write)
}

// Cycle returns a copy of a cycle.
func Cycle(c api.Cycle) api.Cycle {
	c.Positions, c.Writes = slices.Clone(c.Positions), Writes(c.Writes)
	return c
}

// Cycles returns copies of the cycles of a list.
func Cycles(l []api.Cycle) []api.Cycle {
	return All(l, Cycle)
}

// All returns what a function that copies an element makes of each element of a list.
func All[T any](l []T, one func(T) T) []T {
	copies := slices.Clone(l)
	for i, x := range copies {
		copies[i] = one(x)
	}
	return copies
}
