// Package octets has numbers as bytes of a fixed count, the highest one first: all layers lay them so.
package octets

// Lay fills bytes with the lowest ones of a number.
func Lay(b []byte, x uint64) {
	for i := range b {
		b[i] = byte(x >> (8 * (len(b) - 1 - i)))
	}
}

// Append is bytes with the lowest n of a number behind them.
func Append(b []byte, x uint64, n int) []byte {
	for i := range n {
		b = append(b, byte(x>>(8*(n-1-i))))
	}
	return b
}

// Read is the number that bytes are; of more than eight, the last eight.
func Read(b []byte) uint64 {
	x := uint64(0)
	for _, c := range b {
		x = x<<8 | uint64(c)
	}
	return x
}
