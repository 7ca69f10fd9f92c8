package impl

// maxPair is the greatest number of a pair of bytes, and what sums are taken modulo.
const maxPair = 65535

// BytesOf returns a number in 0..256^n-1 as n bytes, n in 1..4, the greatest one first; nil for others.
func BytesOf(v int, n int) []byte {
	if v < 0 || !isWidth(n) {
		return nil
	}
	out := make([]byte, n)
	rest := v
	for i := n - 1; i >= 0; i-- {
		out[i] = byte(rest % 256)
		rest = rest / 256
	}
	// Something is left over just if the number is too great for n bytes.
	if rest > 0 {
		return nil
	}
	return out
}

// NumberAt returns the number of n bytes, n in 1..4, at a place, from 0 on, the greatest one first; -1 if they are not all there, and for others.
func NumberAt(b []byte, at int, n int) int {
	// The place is compared with a difference, since at+n could be too great for an int.
	if !isWidth(n) || at < 0 || at > len(b)-n {
		return -1
	}
	v := 0
	for i := 0; i < n; i++ {
		v = v*256 + int(b[at+i])
	}
	return v
}

// SumOf returns the sum of bytes, in 0..65535: the pairs of bytes as numbers, the first byte the greater one, a last byte alone with 0 behind it, are added up, and whenever there is more than 65535, 65535 is taken away; SumOf is 65535 less that.
func SumOf(b []byte) int {
	sum := 0
	for i := 0; i < len(b); i += 2 {
		sum = sumAdd(sum, pairAt(b, i))
	}
	return maxPair - sum
}

// SumFits reports whether a number in 0..65535 is the sum of bytes, or both are 0 or 65535 (SumOf).
func SumFits(b []byte, sum int) bool {
	// Both ways to fit leave only a number in 0..65535, since SumOf is one.
	own := SumOf(b)
	return own == sum || sumsToNothing(own) && sumsToNothing(sum)
}

// SumTurned returns a sum of bytes (SumOf) after the pair of bytes that was one number in 0..65535 became another one: the sum and the old number, with the complement of the new one, are added up as SumOf does, without taking the complement; -1 for others.
func SumTurned(sum int, old int, next int) int {
	if !isPair(sum) || !isPair(old) || !isPair(next) {
		return -1
	}
	return sumAdd(sumAdd(sum, old), maxPair-next)
}

// isWidth reports whether numbers are written in n bytes at all.
func isWidth(n int) bool {
	return n >= 1 && n <= 4
}

// isPair reports whether a number is that of a pair of bytes.
func isPair(v int) bool {
	return v >= 0 && v <= maxPair
}

// pairAt returns the number of the pair of bytes at a place that is in b.
func pairAt(b []byte, at int) int {
	v := int(b[at]) * 256
	if at+1 < len(b) {
		v += int(b[at+1])
	}
	return v
}

// sumAdd adds up two numbers of pairs. The remainder % maxPair would not do: 65535 has to stay as it is.
func sumAdd(sum int, v int) int {
	total := sum + v
	if total > maxPair {
		return total - maxPair
	}
	return total
}

// sumsToNothing reports whether a sum is one of the two that stand for nothing modulo 65535.
func sumsToNothing(sum int) bool {
	return sum == 0 || sum == maxPair
}

// bytesCopied returns the same bytes in new memory.
func bytesCopied(b []byte) []byte {
	out := make([]byte, len(b))
	copy(out, b)
	return out
}
