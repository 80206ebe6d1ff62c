// Package number: numbers as bytes, the high byte first.
package number

// Word gives a number as two bytes.
func Word(n int) string {
	return string([]byte{byte(n / 256), byte(n % 256)})
}

// Long gives a number as four bytes.
func Long(n int) string {
	high := Word(n / 65536)
	low := Word(n % 65536)
	return high + low
}
