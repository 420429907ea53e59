// Package own: copies of tasks that share no memory with anything. What a layer keeps of a task that it is given, or returns of a task that it goes on keeping, is such a copy.
package own

import (
	"slices"

	"confidant/api"
)

// Task returns t with a stack of its own.
func Task(t api.Task) api.Task {
	t.Stack = slices.Clone(t.Stack)
	return t
}
