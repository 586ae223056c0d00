package tests

// dice make numbers that look like chance, the same ones in every run of the tests.
type dice uint32

func newDice() *dice {
	d := dice(2463534242)
	return &d
}

// next are 32 bits.
func (d *dice) next() uint32 {
	*d ^= *d << 13
	*d ^= *d >> 17
	*d ^= *d << 5
	return uint32(*d)
}

// roll is a number from 0 to n less 1.
func (d *dice) roll(n int) int {
	return int(d.next()>>8) % n
}

// pick is one of a list.
func pick[T any](d *dice, list []T) T {
	return list[d.roll(len(list))]
}
