package integer

// root returns the square root, rounded down, by the iteration of Newton, which
// descends to it from any greater number.
func (a natural) root() natural {
	if len(a) == 0 {
		return nil
	}
	bound := (a.bitLen() + 1) / 2
	root := join(natural{1 << (bound % wordBits)}, nil, bound/wordBits)
	for {
		quotient, _ := a.divide(root)
		next := root.plus(quotient).shiftRight(1)
		if next.compare(root) >= 0 {
			return root
		}
		root = next
	}
}
