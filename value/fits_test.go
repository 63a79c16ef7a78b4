package value_test

import (
	"math"
	"testing"

	"confluence/api"
	"confluence/value"
)

var kinds = []int{api.Null, api.Int, api.Text, api.Bool, 4, -1, math.MaxInt}

func TestV3RightValues(t *testing.T) {
	for _, kind := range kinds {
		for _, mayBeNull := range []bool{false, true} {
			c := api.Column{Name: "c", Kind: kind, Null: mayBeNull}
			for _, v := range ordered {
				want := api.OK
				switch {
				case v == null && !mayBeNull:
					want = api.ErrValueNull
				case v != null && v.Kind != kind:
					want = api.ErrValueKind
				}
				if e := value.Fits(v, c); e != want {
					t.Errorf("Fits(%+v, %+v) = %d, want %d", v, c, e, want)
				}
			}
		}
	}
}

func TestV3WrongValues(t *testing.T) {
	for want, l := range wrongs() {
		for _, v := range l {
			for _, kind := range append(kinds, v.Kind) {
				for _, mayBeNull := range []bool{false, true} {
					c := api.Column{Kind: kind, Null: mayBeNull}
					if e := value.Fits(v, c); e != want {
						t.Errorf("Fits(%.40v, %+v) = %d, want %d", v, c, e, want)
					}
				}
			}
		}
	}
}

func TestV3Edges(t *testing.T) {
	ofText := api.Column{Kind: api.Text}
	is(t, "200 bytes", value.Fits(text(full), ofText), api.OK)
	is(t, "201 bytes", value.Fits(text(long), ofText), api.ErrValueLong)
	is(t, "an empty text is not null", value.Fits(text(""), ofText), api.OK)
	is(t, "nought is not null", value.Fits(number(0), api.Column{Kind: api.Int}), api.OK)
	is(t, "false is not null", value.Fits(no, api.Column{Kind: api.Bool}), api.OK)
	is(t, "null in a column of nulls", value.Fits(null, api.Column{}), api.ErrValueNull)
	is(t, "a long text elsewhere", value.Fits(text(long), api.Column{Kind: api.Int}), api.ErrValueLong)
	is(t, "a long null", value.Fits(api.Value{S: long}, ofText), api.ErrValueForm)
}
