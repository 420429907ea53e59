package samples

import (
	"confidant/api"
	"confidant/rng"
)

// Tree returns a valid tree. The given label flows to those of all nodes, and that of each kid to that of its parent, unless the parent is the first node.
func Tree(seed uint64, leq [][]bool, label int) []api.Tree {
	m := &maker{Rng: rng.New(seed*2685821657736338717 + 1), labels: len(leq)}
	t := []api.Tree{{Label: m.between(leq, label, -1)}}
	for n := range m.Below(m.Below(api.MaxFuncs) + 1) {
		parent := m.Below(n + 1)
		for len(t[parent].Kids) == 8 {
			parent = m.Below(n + 1)
		}
		t[parent].Kids = append(t[parent].Kids, n+1)
		below := -1
		if parent > 0 {
			below = t[parent].Label
		}
		t = append(t, api.Tree{Label: m.between(leq, label, below)})
	}
	for n := range t {
		t[n].Kind, t[n].Value = m.kind(len(t[n].Kids)), int32(m.Next())>>m.Below(32)
	}
	return t
}

// between is a label to which low flows and which flows to high, if that is not negative.
func (m *maker) between(leq [][]bool, low, high int) int {
	for {
		if n := m.Below(m.labels); leq[low][n] && (high < 0 || leq[n][high]) {
			return n
		}
	}
}

// kind is one that a node with so many kids may have.
func (m *maker) kind(kids int) int {
	switch kids {
	case 0:
		return []int{api.Leaf, api.Leaf, api.Leaf, api.Sum, api.Prod}[m.Below(5)]
	case 2:
		return []int{api.Sum, api.Prod, api.Diff, api.Diff}[m.Below(4)]
	}
	return []int{api.Sum, api.Prod}[m.Below(2)]
}
