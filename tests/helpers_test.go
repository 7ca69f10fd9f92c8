package tests

// The least and the greatest int: the numbers with which sums of places overflow.
const (
	greatest = int(^uint(0) >> 1)
	least    = -greatest - 1
)

// mixedBytes returns many bytes in no order that can be seen, the same ones for the same seed.
func mixedBytes(seed int, many int) []byte {
	out := make([]byte, many)
	state := uint32(seed)*2654435761 + 12345
	for i := 0; i < many; i++ {
		state = state*1664525 + 1013904223
		out[i] = byte(state >> 24)
	}
	return out
}

// copied returns the same bytes in new memory.
func copied(b []byte) []byte {
	out := make([]byte, len(b))
	copy(out, b)
	return out
}

// joined returns the bytes of a and those of b behind them, in new memory.
func joined(a []byte, b []byte) []byte {
	out := make([]byte, 0, len(a)+len(b))
	out = append(out, a...)
	return append(out, b...)
}

// bitTurned returns bytes with a bit of one of them turned, in new memory.
func bitTurned(b []byte, at int, bit int) []byte {
	out := copied(b)
	out[at] ^= 1 << bit
	return out
}

// sameBytes reports whether a and b have the same bytes; none are the same as nil.
func sameBytes(a []byte, b []byte) bool {
	return string(a) == string(b)
}
