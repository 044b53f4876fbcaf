package table

import "testing"

// level asks that no node's sides differ in height by more than one, and that each height is right: else keys that come in some order would make others be looked for long.
func level(t *testing.T, n *node[int, int]) int {
	t.Helper()
	if n == nil {
		return 0
	}
	left, right := level(t, n.left), level(t, n.right)
	if left > right+1 || right > left+1 || n.height != max(left, right)+1 {
		t.Fatalf("node %d: height %d, its sides' %d and %d", n.key, n.height, left, right)
	}
	return n.height
}

func TestLevel(t *testing.T) {
	const many = 200
	for step := 1; step < many; step += 5 {
		for from := 1; from < many; from += 30 {
			x := New[int, int]()
			// many + 11 is a prime: each step comes by each number once.
			for n := range many + 11 {
				x.Put(n*step%(many+11), n)
				x.Put(n*step%(many+11), -n)
				if step == 1 || n == many/2 {
					level(t, x.root)
				}
			}
			level(t, x.root)
			for n := range many + 11 {
				x.Drop(n * from % (many + 11))
				if step == 1 || n%10 == 0 {
					level(t, x.root)
				}
			}
			if x.root != nil {
				t.Fatalf("step %d, from %d: %d left", step, from, x.Len())
			}
		}
	}
}
