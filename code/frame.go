package code

import (
	"strings"

	"confluence/api"
)

// The check at first; what is xored in for a bit that is shifted out; a frame's first byte.
const (
	checkFirst = 4294967295
	checkXor   = 2197175160
	frameMark  = 199
)

// checkTable has for each byte what it makes of a check that is shifted right by it.
var checkTable = makeCheckTable()

func makeCheckTable() [256]uint32 {
	var table [256]uint32
	for i := range table {
		table[i] = shiftByte(uint32(i))
	}
	return table
}

func shiftByte(c uint32) uint32 {
	for range 8 {
		if c&1 == 1 {
			c = c>>1 ^ checkXor
		} else {
			c >>= 1
		}
	}
	return c
}

// Check is the CRC-32C of a text.
func Check(s string) int { return int(^checkOn(checkFirst, s)) }

// checkOn goes on with a check whose bits are not turned yet.
func checkOn(c uint32, s string) uint32 {
	for i := range len(s) {
		c = checkTable[byte(c)^s[i]] ^ c>>8
	}
	return c
}

// Frame is a payload with its length and its check ahead.
func Frame(s string) (string, api.Errno) {
	if len(s) > api.MaxPayload {
		return "", api.ErrCodeLong
	}
	length := string([]byte{byte(len(s) >> 8), byte(len(s))})
	head := string([]byte{frameMark}) + length + checkBytes(length, s)
	return head + s, api.OK
}

// Unframe is the payload of the frame with which a text begins, and how many bytes the frame has.
func Unframe(s string) (string, int, api.Errno) {
	switch {
	case s == "" || s[0] == 0:
		return "", 0, api.ErrCodeBlank
	case s[0] != frameMark:
		return "", 0, api.ErrCodeSpoilt
	case len(s) < api.FrameHead:
		return "", 0, api.ErrCodeShort
	}
	length := s[1:3]
	n := int(length[0])<<8 + int(length[1])
	whole := api.FrameHead + n
	if n > api.MaxPayload {
		return "", 0, api.ErrCodeSpoilt
	}
	if len(s) < whole {
		return "", 0, api.ErrCodeShort
	}
	payload := s[api.FrameHead:whole]
	if s[3:api.FrameHead] != checkBytes(length, payload) {
		return "", 0, api.ErrCodeSpoilt
	}
	return strings.Clone(payload), whole, api.OK
}

// checkBytes is the check of a frame's length and payload, the lowest byte first.
func checkBytes(length, payload string) string {
	c := ^checkOn(checkOn(checkFirst, length), payload)
	return string([]byte{byte(c), byte(c >> 8), byte(c >> 16), byte(c >> 24)})
}
