package tree

import "confidant/api"

// so is the local variable that has the result of the kids that have been waited for.
const so = 1

// Compile returns the code whose function n computes node n, or false if t is not valid.
func Compile(t []api.Tree) (api.Image, bool) {
	if !Right(t, api.MaxLabels) {
		return nil, false
	}
	var m api.Image
	for _, node := range t {
		m = append(m, code(t, node))
	}
	return m, true
}

func code(t []api.Tree, node api.Tree) []api.Instr {
	switch {
	case node.Kind == api.Leaf:
		return constant(node.Value)
	case len(node.Kids) > 0:
		return computed(t, node)
	case node.Kind == api.Prod:
		return constant(1)
	}
	return constant(0)
}

func constant(v int32) []api.Instr {
	return []api.Instr{{Op: api.Push, Arg: v}, {Op: api.Ret}}
}

// computed forks all kids before it waits for any. The last one is on top of the stack, so it is the first one waited for.
func computed(t []api.Tree, node api.Tree) []api.Instr {
	var f []api.Instr
	for _, kid := range node.Kids {
		f = append(f, fork(t, kid)...)
	}
	f = append(f, api.Instr{Op: api.Wait}, api.Instr{Op: api.Store, Arg: so})
	another := []api.Instr{{Op: api.Wait}, {Op: api.Load, Arg: so}, {Op: operation(node.Kind)}, {Op: api.Store, Arg: so}}
	for range node.Kids[1:] {
		f = append(f, another...)
	}
	return append(f, api.Instr{Op: api.Load, Arg: so}, api.Instr{Op: api.Ret})
}

func fork(t []api.Tree, kid int) []api.Instr {
	return []api.Instr{{Op: api.Push, Arg: int32(t[kid].Label)}, {Op: api.Push}, {Op: api.Fork, Arg: int32(kid)}}
}

// operation is the instruction that combines the values of two kids.
func operation(kind int) int {
	switch kind {
	case api.Prod:
		return api.Mul
	case api.Diff:
		return api.Sub
	}
	return api.Add
}
