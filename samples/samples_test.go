package samples_test

import (
	"testing"

	"confidant/api"
	"confidant/lattice"
	"confidant/samples"
	"confidant/script"
	"confidant/tree"
)

// TestP40_8_Scripts: without errors, and the same ones each time.
func TestP40_8_Scripts(t *testing.T) {
	for seed := range uint64(2000) {
		for _, gates := range []bool{false, true} {
			s := samples.Script(seed, gates)
			if err := script.Check(s); err != api.OK {
				t.Fatalf("script %d, %v: %d", seed, gates, err)
			}
			if !script.Same(s, samples.Script(seed, gates)) {
				t.Fatalf("script %d, %v is not the same again", seed, gates)
			}
			for label := range s.Leq {
				other := samples.Secrets(s, label, seed)
				if err := script.Check(other); err != api.OK {
					t.Fatalf("secrets of script %d, %v: %d", seed, gates, err)
				}
				for n, p := range other.Parts {
					if s.Leq[n][label] && p.Seed != s.Parts[n].Seed {
						t.Fatalf("label %d has other secrets, and flows to %d", n, label)
					}
				}
			}
		}
	}
}

// TestP40_3_Trees: valid, with labels that allow all tasks to do their work.
func TestP40_3_Trees(t *testing.T) {
	for seed := range uint64(1000) {
		leq := [][][]bool{lattice.Powers(0), lattice.Powers(2), lattice.Powers(4), lattice.Chain(5)}[seed%4]
		label := int(seed) % len(leq)
		l := samples.Tree(seed, leq, label)
		if !tree.Right(l, len(leq)) {
			t.Fatalf("tree %d is not valid", seed)
		}
		for n, node := range l {
			if !leq[label][node.Label] {
				t.Fatalf("tree %d: label %d does not flow to %d", seed, label, node.Label)
			}
			for _, kid := range node.Kids {
				if n > 0 && !leq[l[kid].Label][node.Label] {
					t.Fatalf("tree %d: label %d of node %d does not flow to %d", seed, l[kid].Label, kid, node.Label)
				}
			}
		}
	}
}
