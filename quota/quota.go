// Package quota: things that are made at labels, at each one as many as its quota allows. Layers 12 and 13 keep theirs in it.
package quota

import (
	"slices"

	"confidant/api"
	"confidant/ident"
)

// Store has the things of each label that has a quota.
type Store[T any] struct {
	quotas []int
	things [][]T
}

// New returns a store without things. A quota out of range counts as the nearest one within it.
func New[T any](quotas []int) *Store[T] {
	used := quotas[:min(len(quotas), api.MaxLabels)]
	s := &Store[T]{things: make([][]T, len(used))}
	for _, q := range used {
		s.quotas = append(s.quotas, min(max(q, 0), api.MaxQuota))
	}
	return s
}

// Make adds a thing at label by and returns its identity, or false if the quota does not allow it.
func (s *Store[T]) Make(by int, thing T) (int32, bool) {
	n := s.Count(by)
	id, ok := ident.Of(by, n)
	if !ok || n >= s.quota(by) {
		return 0, false
	}
	s.things[by] = append(s.things[by], thing)
	return id, true
}

// Get returns the thing with this identity, or false if there is none.
func (s *Store[T]) Get(id int32) (T, bool) {
	if thing := s.Find(id); thing != nil {
		return *thing, true
	}
	var none T
	return none, false
}

// Find returns where the thing with this identity is kept, or nil if there is none. The place holds until the next Make.
func (s *Store[T]) Find(id int32) *T {
	if !ident.Valid(id, len(s.things)) {
		return nil
	}
	made, n := s.things[ident.Label(id)], ident.Number(id)
	if n >= len(made) {
		return nil
	}
	return &made[n]
}

// Count returns the number of things made at label by.
func (s *Store[T]) Count(by int) int {
	if !s.has(by) {
		return 0
	}
	return len(s.things[by])
}

// All returns copies of the things made at each label that has a quota, in order.
func (s *Store[T]) All() [][]T {
	out := make([][]T, len(s.things))
	for by, made := range s.things {
		out[by] = slices.Clone(made)
	}
	return out
}

func (s *Store[T]) quota(by int) int {
	if !s.has(by) {
		return 0
	}
	return s.quotas[by]
}

func (s *Store[T]) has(by int) bool {
	return by >= 0 && by < len(s.quotas)
}
