package tide_test

// dice throws the same numbers in each run.
type dice uint64

func (d *dice) next() uint64 {
	*d = *d*6364136223846793005 + 1442695040888963407
	x := uint64(*d)
	return x ^ x>>29
}

func (d *dice) below(n int) int { return int(d.next() >> 8 % uint64(n)) }

// in says true once in n times.
func (d *dice) in(n int) bool { return d.below(n) == 0 }

// oneOf is one of these.
func oneOf[T any](d *dice, l ...T) T { return l[d.below(len(l))] }
