package value

import (
	"strings"

	"confluence/api"
)

// What a key begins with: so the kinds stand in their order.
const (
	keyNull = 1
	keyBool = 2
	keyInt  = 3
	keyText = 4
)

// numberBytes is how many bytes an Int has in a key.
const numberBytes = 8

// Key is bytes whose order is that of the values.
func Key(v api.Value) (string, api.Errno) {
	if e := wrong(v); e != api.OK {
		return "", e
	}
	switch v.Kind {
	case api.Null:
		return string([]byte{keyNull}), api.OK
	case api.Bool:
		return string([]byte{keyBool, byte(v.N)}), api.OK
	case api.Int:
		return string(keyOfInt(v.N)), api.OK
	}
	return string([]byte{keyText}) + v.S, api.OK
}

// Unkey finds the value again.
func Unkey(s string) (api.Value, api.Errno) {
	if s == "" {
		return api.Value{}, api.ErrValueForm
	}
	mark, rest := s[0], s[1:]
	switch {
	case mark == keyNull && rest == "":
		return api.Value{}, api.OK
	case mark == keyBool && len(rest) == 1 && rest[0] <= 1:
		return api.Value{Kind: api.Bool, N: int(rest[0])}, api.OK
	case mark == keyInt && len(rest) == numberBytes:
		return api.Value{Kind: api.Int, N: intOfKey(rest)}, api.OK
	case mark == keyText && len(rest) <= api.MaxText:
		return api.Value{Kind: api.Text, S: strings.Clone(rest)}, api.OK
	case mark == keyText:
		return api.Value{}, api.ErrValueLong
	}
	return api.Value{}, api.ErrValueForm
}

// raised is a number with 2^63 added, so that those below 0 stand ahead of the others; and the other way round.
func raised(n uint64) uint64 { return n + 1<<63 }

func keyOfInt(n int) []byte {
	out := []byte{keyInt}
	u := raised(uint64(n))
	for i := range numberBytes {
		out = append(out, byte(u>>(8*(numberBytes-1-i))))
	}
	return out
}

func intOfKey(s string) int {
	var u uint64
	for i := range len(s) {
		u = u<<8 | uint64(s[i])
	}
	return int(raised(u))
}
