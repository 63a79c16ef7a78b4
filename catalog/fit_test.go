package catalog_test

import (
	"slices"
	"strings"
	"testing"

	"confluence/api"
	"confluence/catalog"
	"confluence/value"
)

var long = api.Value{Kind: api.Text, S: strings.Repeat("x", 201)}

func wantFit(t *testing.T, what string, x api.Table, r, want api.Row) {
	t.Helper()
	if got, e := catalog.Fit(x, r); !slices.Equal(got, want) || e != api.OK {
		t.Errorf("%s: Fit = %v, %d, want %v", what, got, e, want)
	}
}

func wantNoFit(t *testing.T, what string, x api.Table, r api.Row, want api.Errno) {
	t.Helper()
	if got, e := catalog.Fit(x, r); len(got) != 0 || e != want {
		t.Errorf("%s: Fit = %v, %d, want %d", what, got, e, want)
	}
}

func TestT8Fit(t *testing.T) {
	x := table(1, 1, "t", 0, id, label, flag)
	wantFit(t, "the key alone", x, api.Row{one}, api.Row{one, null, null})
	wantFit(t, "one is left", x, api.Row{one, word}, api.Row{one, word, null})
	wantFit(t, "none is left", x, api.Row{one, word, yes}, api.Row{one, word, yes})
	wantFit(t, "nulls", x, api.Row{one, null, null}, api.Row{one, null, null})
	wantFit(t, "a null and one that is left", x, api.Row{one, null}, api.Row{one, null, null})
	x = table(1, 1, "t", 2, label, flag, id)
	wantFit(t, "the key behind others", x, api.Row{null, yes, one}, api.Row{null, yes, one})
	full := api.Value{Kind: api.Text, S: long.S[1:]}
	wantFit(t, "200 bytes", x, api.Row{full, null, one}, api.Row{full, null, one})
	wide := table(last, last, "t", 0, columns(8)...)
	for n := 1; n <= 8; n++ {
		r := api.Row{one, word, yes, one, word, yes, one, word}
		wantFit(t, "so many", wide, r[:n], append(slices.Clone(r[:n]), make(api.Row, 8-n)...))
	}
}

func TestT8FitRefuses(t *testing.T) {
	x := table(1, 1, "t", 0, id, label, flag)
	for what, r := range map[string]api.Row{
		"nil":                    nil,
		"nothing":                {},
		"a null key":             {null},
		"a null key, all there":  {null, word, yes},
		"one too many":           {one, word, yes, null},
		"nulls too many":         {one, null, null, null, null},
		"a thousand":             slices.Repeat(api.Row{one}, 1000),
		"of another kind":        {one, one},
		"a key of another kind":  {word},
		"a Bool as an Int":       {yes, null, null},
		"the last of other kind": {one, word, word},
		"no form":                {{Kind: api.Int, S: "x"}},
		"a null of no form":      {one, {N: 1}},
		"a Bool of no form":      {one, null, {Kind: api.Bool, N: 2}},
		"no kind":                {one, null, {Kind: 4}},
		"201 bytes":              {one, long},
	} {
		wantNoFit(t, what, x, r, api.ErrRowFit)
	}
	must := table(1, 1, "t", 0, id, label, api.Column{Name: "must", Kind: api.Int}, flag)
	wantNoFit(t, "one that is left may not be null", must, api.Row{one, word}, api.ErrRowFit)
	wantNoFit(t, "nor if it is told", must, api.Row{one, word, null}, api.ErrRowFit)
	wantFit(t, "all that must be", must, api.Row{one, null, one}, api.Row{one, null, one, null})
	behind := table(1, 1, "t", 1, label, id)
	wantNoFit(t, "the key is left", behind, api.Row{word}, api.ErrRowFit)
}

func TestT8WrongTables(t *testing.T) {
	for _, c := range []struct {
		x    api.Table
		want api.Errno
	}{
		{api.Table{}, api.ErrArg},
		{table(0, 1, "t", 0, id), api.ErrArg},
		{table(1, last+1, "t", 0, id), api.ErrArg},
		{table(1, 1, "T", 0, id), api.ErrTableName},
		{table(1, 1, "t", 0), api.ErrColumnMany},
		{table(1, 1, "t", 0, columns(9)...), api.ErrColumnMany},
		{table(1, 1, "t", 0, id, id), api.ErrColumnThere},
		{table(1, 1, "t", 0, id, api.Column{Name: "x", Kind: 9}), api.ErrArg},
		{table(1, 1, "t", 1, id), api.ErrColumnKey},
		{table(1, 1, "t", 0, flag), api.ErrColumnKey},
	} {
		for _, r := range []api.Row{nil, {one}, {null}, {one, one}, slices.Repeat(api.Row{one}, 9)} {
			wantNoFit(t, "a table that is not right", c.x, r, c.want)
		}
	}
}

// TestT8AllShortRows: each row of some values, up to four of them, fits just if the document says so.
func TestT8AllShortRows(t *testing.T) {
	some := []api.Value{null, one, word, yes, {Kind: api.Text, N: 1}, long}
	tables := []api.Table{
		table(1, 1, "t", 0, id), table(1, 1, "t", 0, id, label, flag), table(1, 1, "t", 1, label, id),
		table(1, 1, "t", 0, id, flag, api.Column{Name: "must", Kind: api.Text}), table(1, 1, "t", 0, api.Column{Name: "key", Kind: api.Text}, api.Column{Name: "must", Kind: api.Bool}),
	}
	all, fitted := []api.Row{nil}, 0
	for range 5 {
		var longer []api.Row
		for _, r := range all {
			for _, x := range tables {
				want, e := fitted8(x, r)
				if got, f := catalog.Fit(x, r); !slices.Equal(got, want) || e != f {
					t.Fatalf("Fit(%+v, %.80v) = %.80v, %d, want %v, %d", x, r, got, f, want, e)
				}
				if e == api.OK {
					fitted++
				}
			}
			for _, v := range some {
				longer = append(longer, append(slices.Clone(r), v))
			}
		}
		all = longer
	}
	if fitted != 13 { // 1, 1 + 2 + 4, 2, 2, 1: counted by hand
		t.Errorf("%d rows fitted", fitted)
	}
}

// fitted8 is T8 told over again, column by column.
func fitted8(x api.Table, r api.Row) (api.Row, api.Errno) {
	var out api.Row
	for i, c := range x.Columns {
		switch {
		case i < len(r) && value.Fits(r[i], c) != api.OK, i >= len(r) && !c.Null:
			return nil, api.ErrRowFit
		case i < len(r):
			out = append(out, r[i])
		default:
			out = append(out, null)
		}
	}
	if len(r) > len(x.Columns) {
		return nil, api.ErrRowFit
	}
	return out, api.OK
}
