package value_test

import (
	"math"
	"math/rand"
	"slices"
	"strings"
	"testing"

	"confluence/api"
)

func number(n int) api.Value { return api.Value{Kind: api.Int, N: n} }

func text(s string) api.Value { return api.Value{Kind: api.Text, S: s} }

var (
	null  = api.Value{}
	no    = api.Value{Kind: api.Bool}
	yes   = api.Value{Kind: api.Bool, N: 1}
	full  = strings.Repeat("x", api.MaxText)
	long  = full + "x"
	noRow = slices.Repeat(api.Row{null}, api.MaxColumns+1)
)

// ordered are right values in their order, written down by hand.
var ordered = []api.Value{
	null, no, yes,
	number(math.MinInt), number(math.MinInt + 1), number(-1 << 56), number(-65536), number(-257), number(-256), number(-255), number(-2), number(-1),
	number(0), number(1), number(9), number(10), number(127), number(128), number(255), number(256), number(65535), number(65536), number(1 << 56), number(math.MaxInt - 1), number(math.MaxInt),
	text(""), text("\x00"), text("\x00\x00"), text("\x00\xff"), text("\x01"), text("\n"), text(" "), text("'"), text("-1"), text("0"), text("10"), text("2"), text("A"), text("\\"), text("a"), text("a\x00"), text("a\x00b"), text("a'"), text("ab"), text("a\xff"), text("b"), text("null"),
	text(full[1:]), text(full), text(full[1:] + "\xff"), text("\x7f"), text("\x80"), text("é"), text("\xff"), text("\xff\x00"), text("\xff\xff"),
}

// formless are values that have no form; some of them are too long besides.
var formless = []api.Value{
	{Kind: api.Null, N: 1}, {Kind: api.Null, N: -1}, {Kind: api.Null, S: "x"}, {Kind: api.Null, S: "\x00"}, {Kind: api.Null, N: 1, S: "x"}, {Kind: api.Null, S: long},
	{Kind: api.Int, S: "x"}, {Kind: api.Int, N: 5, S: "5"}, {Kind: api.Int, S: long},
	{Kind: api.Text, N: 1}, {Kind: api.Text, N: -1, S: "x"}, {Kind: api.Text, N: 1, S: long}, {Kind: api.Text, N: math.MinInt, S: full},
	{Kind: api.Bool, N: 2}, {Kind: api.Bool, N: -1}, {Kind: api.Bool, N: math.MinInt}, {Kind: api.Bool, N: 256}, {Kind: api.Bool, N: 1, S: "x"}, {Kind: api.Bool, S: "x"}, {Kind: api.Bool, N: 1, S: long},
	{Kind: 4}, {Kind: -1}, {Kind: 4, N: 1}, {Kind: 5, S: "x"}, {Kind: 256}, {Kind: 257, N: 5}, {Kind: 1 << 32}, {Kind: math.MinInt}, {Kind: math.MaxInt}, {Kind: 9, S: long},
}

// overlong are values that have a form, but too many bytes.
var overlong = []api.Value{text(long), text(strings.Repeat("\x00", api.MaxText+1)), text(strings.Repeat("é", 101)), text(strings.Repeat("'", 1000)), text(strings.Repeat("x", 1<<16))}

// wrongs are all values that are not right, and what they are refused with.
func wrongs() map[api.Errno][]api.Value {
	return map[api.Errno][]api.Value{api.ErrValueForm: formless, api.ErrValueLong: overlong}
}

func is(t *testing.T, what string, got, want api.Errno) {
	t.Helper()
	if got != want {
		t.Errorf("%s: %d, want %d", what, got, want)
	}
}

// randomText has bytes that matter for literals and keys more often than others.
func randomText(source *rand.Rand, most int) string {
	const edges = "\x00\xff'\\\x1f\x20\x7e\x7f09afA\n"
	out := make([]byte, source.Intn(most+1))
	for i := range out {
		if out[i] = byte(source.Intn(256)); source.Intn(2) == 0 {
			out[i] = edges[source.Intn(len(edges))]
		}
	}
	return string(out)
}

func randomInt(source *rand.Rand) int {
	return int(source.Uint64()) >> source.Intn(64)
}

// randomRight is any right value.
func randomRight(source *rand.Rand) api.Value {
	switch source.Intn(6) {
	case 0:
		return null
	case 1:
		return api.Value{Kind: api.Bool, N: source.Intn(2)}
	case 2, 3:
		return number(randomInt(source))
	case 4:
		return text(randomText(source, 4))
	}
	return text(randomText(source, api.MaxText))
}

// randomValue is any value, right or not.
func randomValue(source *rand.Rand) api.Value {
	switch source.Intn(4) {
	case 0:
		return formless[source.Intn(len(formless))]
	case 1:
		return api.Value{Kind: source.Intn(8) - 2, N: source.Intn(4) - 1, S: randomText(source, 2)}
	}
	return randomRight(source)
}
