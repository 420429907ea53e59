package samples_test

import (
	"testing"

	"confidant/api"
	"confidant/samples"
	"confidant/script"
)

// TestP40_8_Scripts: without errors, and the same ones each time.
func TestP40_8_Scripts(t *testing.T) {
	for seed := range uint64(2000) {
		for _, gates := range []bool{false, true} {
			s := samples.Script(seed, gates)
			if err := script.Check(s); err != api.OK {
				t.Fatalf("script %d, %v: %d", seed, gates, err)
			}
			if !script.Same(s, samples.Script(seed, gates)) {
				t.Fatalf("script %d, %v is not the same again", seed, gates)
			}
			for label := range s.Leq {
				other := samples.Secrets(s, label, seed)
				if err := script.Check(other); err != api.OK {
					t.Fatalf("secrets of script %d, %v: %d", seed, gates, err)
				}
				for n, p := range other.Parts {
					if s.Leq[n][label] && p.Seed != s.Parts[n].Seed {
						t.Fatalf("label %d has other secrets, and flows to %d", n, label)
					}
				}
			}
		}
	}
}
