package wave

import (
	"slices"

	"firn/api"
)

// headBytes is how many bytes in front of the bits tell how many bits there are.
const headBytes = 2

// Pack returns the bytes of a text of bits.
func Pack(text string) ([]byte, api.Errno) {
	if !ValidBits(text) {
		return nil, api.ErrBits
	}
	return pack(text), api.OK
}

// pack is Pack for a text of bits that is valid.
func pack(text string) []byte {
	packed := []byte{byte(len(text) >> 8), byte(len(text))}
	for at := range len(text) {
		if at%8 == 0 {
			packed = append(packed, 0)
		}
		if text[at] == '1' {
			packed[len(packed)-1] |= 0x80 >> (at % 8)
		}
	}
	return packed
}

// Unpack returns the text of bits of bytes.
func Unpack(b []byte) (string, api.Errno) {
	if len(b) < headBytes {
		return "", api.ErrForm
	}
	count := int(b[0])<<8 | int(b[1])
	if count > api.MaxText || count > 8*(len(b)-headBytes) {
		return "", api.ErrForm
	}
	bits := make([]byte, count)
	for at := range count {
		bits[at] = '0' + b[headBytes+at/8]>>(7-at%8)&1
	}
	text := string(bits)
	// Bytes behind the bits, or a last one that is not filled up with 0, are of no text.
	if !slices.Equal(pack(text), b) {
		return "", api.ErrForm
	}
	return text, api.OK
}
