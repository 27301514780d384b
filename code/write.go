package code

import "gavel/values"

// Write gives the bytes of a code. What a jump passes over is worked out from
// where it comes to.
func Write(depth, cells int, list []Instruction) string {
	places := begins(list)
	b := []byte{sign, byte(depth), byte(cells)}
	for i, in := range list {
		n := in.Number
		if in.jumps() {
			n = values.Value(places[in.To] - places[i] - in.size())
		}
		b = append(b, byte(in.Op))
		b = appendNumber(b, n, following(in.Op))
	}
	return string(b)
}

// begins gives the place of the first byte of each instruction.
func begins(list []Instruction) []int {
	places := make([]int, len(list))
	at := header
	for i, in := range list {
		places[i] = at
		at += in.size()
	}
	return places
}

// appendNumber writes a number in so many bytes, the greatest first.
func appendNumber(b []byte, n values.Value, bytes int) []byte {
	for left := bytes - 1; left >= 0; left-- {
		b = append(b, byte(n>>(8*left)))
	}
	return b
}
