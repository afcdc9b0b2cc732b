package integer

import (
	"slices"
	"strconv"
	"strings"
)

const (
	chunkDigits = 19                         // decimal digits that always fit into a word
	chunk       = 10_000_000_000_000_000_000 // 10 to the power of chunkDigits
	splitDigits = 32 * chunkDigits           // longer texts are split in two
)

// FromDigits returns the number that decimal digits denote, and false if the
// text does not consist of one or more decimal digits.
func FromDigits(text string) (Int, bool) {
	if !isDigits(text) {
		return Int{}, false
	}
	if len(text) <= chunkDigits {
		return signedWord(false, readChunk(text)), true
	}
	return signed(false, readDigits(text, powersOfTen(len(text)))), true
}

func isDigits(text string) bool {
	for i := range len(text) {
		if text[i] < '0' || text[i] > '9' {
			return false
		}
	}
	return text != ""
}

// String returns the decimal digits of x, after a minus sign if x is negative.
func (x Int) String() string {
	if x.long == nil {
		return strconv.FormatInt(x.small, 10)
	}
	sign := ""
	if x.long.negative {
		sign = "-"
	}
	// log10(2) is less than 0.30103.
	buffer := make([]byte, x.long.size.bitLen()*30103/100000+1)
	writeDigits(buffer, x.long.size, powersOfTen(len(buffer)))
	return sign + strings.TrimLeft(string(buffer), "0")
}

// powersOfTen returns the powers of 10 that a number with n digits is split at:
// that with the number k has chunkDigits * 2^k zeros.
func powersOfTen(n int) []natural {
	if n <= splitDigits {
		return nil
	}
	powers := []natural{{chunk}}
	for chunkDigits<<len(powers) < n {
		last := powers[len(powers)-1]
		powers = append(powers, last.times(last))
	}
	return powers
}

func readDigits(text string, powers []natural) natural {
	if len(text) <= splitDigits {
		return readChunks(text)
	}
	last := len(powers) - 1
	split := len(text) - chunkDigits<<last
	if split <= 0 {
		return readDigits(text, powers[:last])
	}
	high := readDigits(text[:split], powers[:last])
	low := readDigits(text[split:], powers[:last])
	return high.times(powers[last]).plus(low)
}

func readChunks(text string) natural {
	number := make(natural, 0, len(text)/chunkDigits+1)
	for len(text) > 0 {
		size := (len(text)-1)%chunkDigits + 1
		digits := natural{readChunk(text[:size])}
		text = text[size:]
		number = append(number, scale(number, chunk))
		addTo(number, digits)
	}
	return trim(number)
}

func readChunk(text string) uint64 {
	var value uint64
	for i := range len(text) {
		value = value*10 + uint64(text[i]-'0')
	}
	return value
}

// writeDigits fills the buffer with the digits of a number that is short enough
// for it, after leading zeros.
func writeDigits(buffer []byte, a natural, powers []natural) {
	if len(buffer) <= splitDigits {
		writeChunks(buffer, a)
		return
	}
	last := len(powers) - 1
	split := len(buffer) - chunkDigits<<last
	if split <= 0 {
		writeDigits(buffer, a, powers[:last])
		return
	}
	high, low := a.divide(powers[last])
	writeDigits(buffer[:split], high, powers[:last])
	writeDigits(buffer[split:], low, powers[:last])
}

func writeChunks(buffer []byte, a natural) {
	rest := slices.Clone(a)
	for len(buffer) > 0 {
		split := max(0, len(buffer)-chunkDigits)
		writeChunk(buffer[split:], divideByWord(rest, chunk))
		buffer = buffer[:split]
		rest = trim(rest)
	}
}

func writeChunk(buffer []byte, value uint64) {
	for i := len(buffer) - 1; i >= 0; i-- {
		buffer[i] = byte('0' + value%10)
		value /= 10
	}
}
