package tree_test

import (
	"math"
	"math/big"
	"reflect"
	"slices"
	"sync"
	"testing"

	"confidant/api"
	"confidant/image"
	"confidant/lattice"
	"confidant/run"
	"confidant/samples"
	"confidant/tree"
	"confidant/verify"
)

// scramble yields numbers: the same ones in every run.
func scramble(seed uint64) func(n int) int {
	return func(n int) int {
		seed = seed*6364136223846793005 + 1442695040888963407
		return int(seed>>33) % n
	}
}

func leaf(v int32) api.Tree {
	return api.Tree{Kind: api.Leaf, Value: v}
}

func node(kind int, kids ...int) api.Tree {
	return api.Tree{Kind: kind, Kids: kids}
}

// at is a node with another label.
func at(label int, n api.Tree) api.Tree {
	n.Label = label
	return n
}

// good is a valid tree of all kinds: 2 * (3 + 4 + 5) - (7 - 9); all of it is new.
func good() []api.Tree {
	return []api.Tree{
		at(1, node(api.Diff, 1, 4)),
		at(2, node(api.Prod, 2, 3)), at(3, leaf(2)), node(api.Sum, 5, 6, 7),
		at(15, node(api.Sum, 8)),
		leaf(3), leaf(4), at(4, leaf(5)),
		node(api.Diff, 9, 10), leaf(7), leaf(9),
	}
}

// wide is a node with so many kids.
func wide(kind, kids int) []api.Tree {
	out := []api.Tree{node(kind)}
	for n := range kids {
		out[0].Kids = append(out[0].Kids, n+1)
		out = append(out, leaf(int32(n+2)))
	}
	return out
}

// deep is a chain of so many nodes.
func deep(nodes int) []api.Tree {
	var out []api.Tree
	for n := range nodes - 1 {
		out = append(out, node(api.Sum, n+1))
	}
	return append(out, leaf(6))
}

// right asks whether a tree is valid for so many labels, and for what follows from that.
func right(t *testing.T, want bool, l []api.Tree, labels int) {
	t.Helper()
	before := copyOf(l)
	if got := tree.Right(l, labels); got != want {
		t.Errorf("Right(%v, %d): %v", l, labels, got)
	}
	v, ok := tree.Value(l)
	m, compiled := tree.Compile(l)
	n := tree.Tasks(l)
	if labels == 16 && !want && (v != 0 || ok || m != nil || compiled || n != 0) {
		t.Errorf("%v: Value %d, %v; Compile %v, %v; Tasks %d", l, v, ok, m, compiled, n)
	}
	if labels == 16 && want && (v != valueOf(l, 0) || !ok || !image.Same(m, imageOf(l)) || !compiled || n != len(l)) {
		t.Errorf("%v: Value %d, %v; Compile %v, %v; Tasks %d; want %d, %v", l, v, ok, m, compiled, n, valueOf(l, 0), imageOf(l))
	}
	if !reflect.DeepEqual(l, before) {
		t.Errorf("the tree is now %v, it was %v", l, before)
	}
}

func copyOf(l []api.Tree) []api.Tree {
	out := slices.Clone(l)
	for n := range out {
		out[n].Kids = slices.Clone(out[n].Kids)
	}
	return out
}

// valueOf is Value as the chapter tells it, with numbers of any size.
func valueOf(l []api.Tree, n int) int32 {
	v := big.NewInt(0)
	kid := func(k int) *big.Int { return big.NewInt(int64(valueOf(l, l[n].Kids[k]))) }
	switch l[n].Kind {
	case api.Leaf:
		return l[n].Value
	case api.Sum:
		for k := range l[n].Kids {
			v.Add(v, kid(k))
		}
	case api.Prod:
		v.SetInt64(1)
		for k := range l[n].Kids {
			v.Mul(v, kid(k))
		}
	default:
		v.Sub(kid(0), kid(1))
	}
	v.Mod(v, big.NewInt(1<<32))
	return int32(uint32(v.Uint64()))
}

func in(op int, arg int) api.Instr {
	return api.Instr{Op: op, Arg: int32(arg)}
}

// imageOf is Compile as the chapter tells it.
func imageOf(l []api.Tree) api.Image {
	var m api.Image
	for _, n := range l {
		if n.Kind == api.Leaf {
			m = append(m, []api.Instr{in(api.Push, int(n.Value)), in(api.Ret, 0)})
			continue
		}
		if len(n.Kids) == 0 {
			m = append(m, []api.Instr{in(api.Push, map[int]int{api.Sum: 0, api.Prod: 1}[n.Kind]), in(api.Ret, 0)})
			continue
		}
		var f []api.Instr
		for _, kid := range n.Kids {
			f = append(f, in(api.Push, l[kid].Label), in(api.Push, 0), in(api.Fork, kid))
		}
		for k := len(n.Kids) - 1; k >= 0; k-- {
			f = append(f, in(api.Wait, 0))
			if k < len(n.Kids)-1 {
				f = append(f, in(api.Load, 1), in(map[int]int{api.Sum: api.Add, api.Prod: api.Mul, api.Diff: api.Sub}[n.Kind], 0))
			}
			f = append(f, in(api.Store, 1))
		}
		m = append(m, append(f, in(api.Load, 1), in(api.Ret, 0)))
	}
	return m
}

func TestP29_1_Good(t *testing.T) {
	right(t, true, good(), 16)
	if v, _ := tree.Value(good()); v != 26 {
		t.Errorf("Value: %d", v)
	}
	right(t, true, []api.Tree{leaf(5)}, 16)
	right(t, true, []api.Tree{node(api.Sum)}, 16)
	right(t, true, []api.Tree{node(api.Prod)}, 16)
	right(t, true, []api.Tree{{Kind: api.Sum, Value: 7, Kids: []int{}}}, 16)
}

func TestP29_1_Size(t *testing.T) {
	right(t, false, nil, 16)
	right(t, false, []api.Tree{}, 16)
	for _, n := range []int{1, 2, 3, 10, 63, 64, 65, 66, 128} {
		right(t, n <= 64, deep(n), 16)
	}
	right(t, false, slices.Repeat([]api.Tree{leaf(1)}, 64), 16)
}

func TestP29_1_Kinds(t *testing.T) {
	for _, kind := range []int{math.MinInt, -1 << 32, -1, 0, 1, 2, 3, 4, 5, 6, 255, 1 << 32, 1<<32 + 1, 1<<32 + 2, math.MaxInt} {
		for kids := range 12 {
			want := kind == api.Leaf && kids == 0 || (kind == api.Sum || kind == api.Prod) && kids <= 8 || kind == api.Diff && kids == 2
			right(t, want, wide(kind, kids), 16)
			below := wide(kind, kids)
			for n := range below {
				for k := range below[n].Kids {
					below[n].Kids[k]++
				}
			}
			right(t, want, append([]api.Tree{node(api.Prod, 1)}, below...), 16)
		}
	}
}

func TestP29_1_Labels(t *testing.T) {
	for _, labels := range []int{math.MinInt, -1, 0, 1, 2, 4, 5, 15, 16, 17, 100, math.MaxInt} {
		for _, label := range []int{math.MinInt, -1 << 32, -1, 0, 1, 3, 4, 5, 14, 15, 16, 17, 99, 100, 1 << 32, math.MaxInt} {
			for n := range 3 {
				l := []api.Tree{node(api.Diff, 1, 2), leaf(1), leaf(2)}
				l[n].Label = label
				right(t, label >= 0 && label < labels && labels > 0, l, labels)
			}
		}
	}
	right(t, true, good(), 17)
	right(t, false, good(), 15)
}

// TestP29_1_Kids: indices of nodes, each greater than the parent's and than the one before.
func TestP29_1_Kids(t *testing.T) {
	for _, kids := range [][]int{
		nil, {1}, {2}, {2, 1}, {1, 1}, {2, 2}, {1, 3}, {3}, {0}, {0, 1}, {0, 1, 2}, {-1}, {-1, 1, 2}, {1, 2, 3}, {1, 2, 2}, {1, 1, 2}, {1, 2, math.MaxInt}, {math.MinInt, 1, 2}, {1 << 32, 2}, {1, 1<<32 + 2},
	} {
		right(t, false, []api.Tree{node(api.Sum, kids...), leaf(5), leaf(6)}, 16)
	}
	right(t, true, []api.Tree{node(api.Sum, 1, 2), leaf(5), leaf(6)}, 16)
	right(t, false, []api.Tree{node(api.Sum, 1, 2), node(api.Sum, 1), leaf(6)}, 16)
	right(t, false, []api.Tree{node(api.Sum, 1, 2), node(api.Sum, 0), leaf(6)}, 16)
	right(t, false, []api.Tree{node(api.Sum, 1, 2), node(api.Sum, 2), leaf(6)}, 16)
	right(t, false, []api.Tree{node(api.Sum, 1), leaf(6), node(api.Sum)}, 16)
	right(t, false, []api.Tree{node(api.Sum, 2), node(api.Sum, 3), leaf(6), leaf(7)}, 16)
	right(t, false, []api.Tree{node(api.Sum, 1), node(api.Sum, 2), node(api.Sum, 1)}, 16)
	right(t, true, []api.Tree{node(api.Sum, 1, 3), node(api.Sum, 2), leaf(6), leaf(7)}, 16)
	right(t, false, []api.Tree{node(api.Sum, 2), leaf(6), node(api.Sum, 1)}, 16)
}

// plainRight is Right as the chapter tells it, with a list of parents for each node.
func plainRight(l []api.Tree, labels int) bool {
	parents := map[int][]int{}
	for n, x := range l {
		shape := x.Kind == api.Leaf && len(x.Kids) == 0 || x.Kind == api.Sum && len(x.Kids) <= 8 || x.Kind == api.Prod && len(x.Kids) <= 8 || x.Kind == api.Diff && len(x.Kids) == 2
		if !shape || x.Label < 0 || x.Label >= labels {
			return false
		}
		for k, kid := range x.Kids {
			if kid <= n || kid >= len(l) || k > 0 && kid <= x.Kids[k-1] {
				return false
			}
			parents[kid] = append(parents[kid], n)
		}
	}
	for n := range l {
		if n > 0 && len(parents[n]) != 1 {
			return false
		}
	}
	return len(l) >= 1 && len(l) <= 64
}

// TestP29_1_AllSmall: all trees of up to four nodes, with kids of all kinds.
func TestP29_1_AllSmall(t *testing.T) {
	lists := [][]int{nil, {1}, {2}, {3}, {1, 2}, {1, 3}, {2, 3}, {2, 1}, {1, 2, 3}, {3, 3}}
	for size := 1; size <= 4; size++ {
		for code := range 10000 * 16 {
			if size < 4 && code >= 16*1000 {
				break
			}
			var l []api.Tree
			kids, kinds := code/16, code%16
			for n := range size {
				kind := []int{api.Sum, api.Prod, api.Diff, api.Leaf}[(kinds+n*kinds/4)%4]
				l = append(l, api.Tree{Kind: kind, Value: int32(n + 5), Kids: lists[kids%10]})
				kids /= 10
			}
			if got := tree.Right(l, 16); got != plainRight(l, 16) {
				t.Fatalf("Right(%v): %v", l, got)
			}
		}
	}
}

// TestP29_1_Random: valid trees, and the same with a change.
func TestP29_1_Random(t *testing.T) {
	next := scramble(29)
	leq := lattice.Chain(16)
	for seed := range uint64(1000) {
		l := samples.Tree(seed, leq, 0)
		right(t, true, l, 16)
		for range 10 {
			other := copyOf(l)
			n := next(len(l))
			switch next(5) {
			case 0:
				other[n].Kind = next(6)
			case 1:
				other[n].Label = next(20) - 2
			case 2:
				other[n].Kids = append(other[n].Kids, next(len(l)+2)-1)
			case 3:
				if k := len(other[n].Kids); k > 0 {
					other[n].Kids[next(k)] = next(len(l)+2) - 1
				}
			default:
				other = append(other[:n], other[n+1:]...)
			}
			right(t, plainRight(other, 16), other, 16)
		}
	}
}

// TestP29_1_Wraps: results modulo 2^32, as in package word.
func TestP29_1_Wraps(t *testing.T) {
	for _, c := range []struct {
		kind int
		kids []int32
		want int32
	}{
		{api.Sum, []int32{math.MaxInt32, 1}, math.MinInt32}, {api.Sum, []int32{-1, -2, 3}, 0}, {api.Prod, []int32{65536, 65536}, 0}, {api.Prod, []int32{math.MinInt32, -1}, math.MinInt32}, {api.Prod, []int32{3, -5, 7}, -105},
		{api.Diff, []int32{math.MinInt32, 1}, math.MaxInt32}, {api.Diff, []int32{4, 9}, -5}, {api.Diff, []int32{0, math.MinInt32}, math.MinInt32}, {api.Sum, []int32{8}, 8}, {api.Prod, []int32{8}, 8}, {api.Prod, []int32{8, 0, 9}, 0},
	} {
		l := wide(c.kind, len(c.kids))
		for n, v := range c.kids {
			l[n+1].Value = v
		}
		l[0].Value = 99 // of no account
		right(t, true, l, 16)
		if v, ok := tree.Value(l); v != c.want || !ok {
			t.Errorf("Value of kind %d of %v: %d, %v; want %d", c.kind, c.kids, v, ok, c.want)
		}
	}
}

func TestP29_2_Code(t *testing.T) {
	m, ok := tree.Compile([]api.Tree{node(api.Diff, 1, 2), at(7, leaf(-3)), at(5, node(api.Prod))})
	text := "func\npush 7\npush 0\nfork 1\npush 5\npush 0\nfork 2\nwait\nstore 1\nwait\nload 1\nsub\nstore 1\nload 1\nret\nfunc\npush -3\nret\nfunc\npush 1\nret\n"
	if got := image.Text(m); got != text || !ok {
		t.Errorf("Compile: %q, %v; want %q", got, ok, text)
	}
	m, _ = tree.Compile([]api.Tree{node(api.Sum, 1), node(api.Sum)})
	text = "func\npush 0\npush 0\nfork 1\nwait\nstore 1\nload 1\nret\nfunc\npush 0\nret\n"
	if got := image.Text(m); got != text {
		t.Errorf("Compile: %q, want %q", got, text)
	}
	for _, l := range [][]api.Tree{good(), wide(api.Prod, 8), wide(api.Sum, 8), deep(64)} {
		m, _ := tree.Compile(l)
		if k, n, err := verify.Image(m, 16, 0); err != api.OK {
			t.Errorf("Compile of %v: error %d at %d, %d", l, err, k, n)
		}
	}
}

func TestP29_2_Label(t *testing.T) {
	for _, leq := range [][][]bool{lattice.Powers(2), lattice.Powers(4), lattice.Chain(16), lattice.Chain(1)} {
		l, _ := lattice.New(leq)
		for seed := range uint64(200) {
			x := samples.Tree(seed, leq, 0)
			want := 0
			for _, n := range x {
				want = l.Join(want, n.Label)
			}
			if got, ok := tree.Label(l, x); got != want || !ok {
				t.Fatalf("Label(%v): %d, %v; want %d", x, got, ok, want)
			}
			if got, ok := tree.Label(nil, x); got != 0 || ok {
				t.Fatalf("Label without a lattice: %d, %v", got, ok)
			}
		}
		for _, bad := range [][]api.Tree{nil, {leaf(1), leaf(2)}, {at(len(leq), leaf(1))}, {at(-1, leaf(1))}, {{}}, {node(api.Sum, 1), at(len(leq), leaf(1))}} {
			if got, ok := tree.Label(l, bad); got != 0 || ok {
				t.Errorf("Label(%v): %d, %v", bad, got, ok)
			}
		}
	}
	l, _ := lattice.New(lattice.Powers(2))
	for _, c := range []struct {
		labels [3]int
		want   int
	}{{[3]int{1, 2, 0}, 3}, {[3]int{1, 1, 1}, 1}, {[3]int{0, 0, 2}, 2}, {[3]int{0, 1, 2}, 3}, {[3]int{2, 0, 0}, 2}, {[3]int{0, 0, 0}, 0}} {
		x := []api.Tree{at(c.labels[0], node(api.Diff, 1, 2)), at(c.labels[1], leaf(1)), at(c.labels[2], leaf(2))}
		if got, ok := tree.Label(l, x); got != c.want || !ok {
			t.Errorf("Label(%v): %d, %v; want %d", x, got, ok, c.want)
		}
	}
	if got, ok := tree.Label(l, good()); got != 0 || ok {
		t.Errorf("Label with labels up to 15 of 4: %d, %v", got, ok)
	}
}

// TestP29_3_AnyOrder: whoever executes which task when.
func TestP29_3_AnyOrder(t *testing.T) {
	next := scramble(293)
	leq := lattice.Powers(2)
	for seed := range uint64(100) {
		l := samples.Tree(seed, leq, 0)
		m, _ := tree.Compile(l)
		want, _ := tree.Value(l)
		for workers := 1; workers <= 8; workers++ {
			part := api.Part{Ring: 64, Half: next(2) == 0, Fuel: 1 << 20, Futures: 64, Seed: uint64(next(1000))}
			for range next(30) {
				part.Picks = append(part.Picks, byte(next(256)))
			}
			s := api.Script{Leq: leq, Image: m, Table: []int{0, 1, 2, 3}, Parts: slices.Repeat([]api.Part{part}, 4), Workers: workers, Starts: []api.Start{{Clear: 3}}}
			r, err := run.Upto(s, 8000)
			if err != api.OK || r.Futures[0][0] != (api.Future{Label: 3, State: api.Kept, Value: want}) || len(r.Futures[0]) != tree.Tasks(l) {
				t.Fatalf("tree %d, %d workers: %d, %v; want %d", seed, workers, err, r.Futures, want)
			}
		}
	}
}

// TestP29_2_NothingShared: the functions of an image have no memory in common with each other or with another image.
func TestP29_2_NothingShared(t *testing.T) {
	m, _ := tree.Compile(good())
	want, _ := tree.Compile(good())
	for n, f := range m {
		_ = append(f, in(api.Fail, 9), in(api.Fail, 9))
		if n+1 < len(m) && !slices.Equal(m[n+1], want[n+1]) {
			t.Fatalf("function %d is now %v", n+1, m[n+1])
		}
	}
	for n := range m {
		clear(m[n])
		for k := n + 1; k < len(m); k++ {
			if !slices.Equal(m[k], want[k]) {
				t.Fatalf("function %d is now %v", k, m[k])
			}
		}
	}
	if again, _ := tree.Compile(good()); !image.Same(again, want) {
		t.Errorf("another image is now %v", again)
	}
}

// TestP29_1_SideBySide: the answers are the same in several goroutines.
func TestP29_1_SideBySide(t *testing.T) {
	l := good()
	var all sync.WaitGroup
	for range 8 {
		all.Go(func() {
			for range 50 {
				if v, ok := tree.Value(l); v != 26 || !ok {
					t.Errorf("Value: %d, %v", v, ok)
				}
			}
		})
	}
	all.Wait()
}
