// Package pages: texts of bits (0 and 1, as letters), written as pages that
// have sums.
package pages

import (
	"strings"

	"trellis/api"
)

const (
	sumSize    = 4
	bodySize   = api.PageSize - sumSize
	bodyBits   = 8 * bodySize
	polynomial = 79764919
)

type (
	body [bodySize]byte
	page [api.PageSize]byte
)

// Write gives the fewest pages that hold a text, with 0 behind its end.
func Write(text string) string {
	var image strings.Builder
	for number := 0; number*bodyBits < len(text); number++ {
		rest := text[number*bodyBits:]
		p := sealed(number, packed(rest[:min(bodyBits, len(rest))]))
		image.Write(p[:])
	}
	return image.String()
}

// Read gives the text of an image, with the 0 behind its end: ErrSize, if
// there are not 1 to MaxPages whole pages; ErrCorrupt, if a sum is wrong.
func Read(image string) (string, api.Errno) {
	if len(image) == 0 || len(image)%api.PageSize != 0 || len(image) > api.MaxPages*api.PageSize {
		return "", api.ErrSize
	}
	bytes := []byte(image)
	var text strings.Builder
	for number := range len(bytes) / api.PageSize {
		is := page(bytes[number*api.PageSize:])
		content := body(is[:])
		if is != sealed(number, content) {
			return "", api.ErrCorrupt
		}
		unpack(&text, content)
	}
	return text.String(), api.OK
}

func packed(text string) body {
	var content body
	for i := range len(text) {
		if text[i] == '1' {
			content[i/8] |= 128 >> (i % 8)
		}
	}
	return content
}

func unpack(text *strings.Builder, content body) {
	for i := range bodyBits {
		text.WriteByte('0' + content[i/8]>>(7-i%8)&1)
	}
}

// sealed gives what a page of this number and content is to be.
func sealed(number int, content body) page {
	var p page
	sum := highestFirst(sumOf(number, content))
	copy(p[:], content[:])
	copy(p[bodySize:], sum[:])
	return p
}

func sumOf(number int, content body) uint32 {
	start := highestFirst(uint32(number))
	sum := addToSum(^uint32(0), start[:])
	return ^addToSum(sum, content[:])
}

func addToSum(sum uint32, bytes []byte) uint32 {
	for _, b := range bytes {
		sum ^= uint32(b) << 24
		for range 8 {
			fell := sum >> 31
			sum = sum<<1 ^ fell*polynomial
		}
	}
	return sum
}

func highestFirst(n uint32) [sumSize]byte {
	return [sumSize]byte{byte(n >> 24), byte(n >> 16), byte(n >> 8), byte(n)}
}
