// Package num is layer 1: see shared/doc/01-num.md.
package num

// Add32 tells a sum, and whether it fits.
func Add32(a, b uint32) (uint32, bool) {
	sum := a + b
	return told(sum, sum >= a, sum >= b)
}

// Sub32 tells a difference, and whether it fits.
func Sub32(a, b uint32) (uint32, bool) { return told(a-b, a >= b) }

// Mul32 tells a product, and whether it fits.
func Mul32(a, b uint32) (uint32, bool) {
	// 64 bits hold the product of any two numbers of 32.
	return Narrow(uint64(a) * uint64(b))
}

// Add64 tells a sum, and whether it fits.
func Add64(a, b uint64) (uint64, bool) {
	sum := a + b
	return told(sum, sum >= a, sum >= b)
}

// Narrow tells a number in 32 bits, and whether it fits.
func Narrow(n uint64) (uint32, bool) {
	high, low := Split(n)
	return told(low, high == 0)
}

// Join puts two numbers together.
func Join(high, low uint32) uint64 { return uint64(high)<<32 | uint64(low) }

// Split takes a number apart.
func Split(n uint64) (uint32, uint32) { return uint32(n >> 32), uint32(n) }

// Turn turns a number's bits to the right.
func Turn(n uint32, by int) uint32 {
	// The low five bits of a number below 0 are those of the turn to the
	// right that ends where its turn to the left does; so no number has to
	// be negated, which the least int could not be.
	right := uint32(by) & 31
	return n>>right | n<<(32-right)
}

// Signed tells a number with its highest bit as a sign.
func Signed(n uint32) int32 { return int32(n) }

// Unsigned tells the number that is signed so.
func Unsigned(n int32) uint32 { return uint32(n) }

// told answers for every way that may fail, so that none of them can leave a
// number behind beside a false.
func told[N uint32 | uint64](n N, conditions ...bool) (N, bool) {
	for _, holds := range conditions {
		if !holds {
			return 0, false
		}
	}
	return n, true
}
