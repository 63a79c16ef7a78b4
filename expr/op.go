package expr

import "confluence/api"

// op tells what an expression is.
type op int

const (
	literal op = iota
	column
	or
	and
	not
	equal
	unequal
	below
	atMost
	above
	atLeast
	null // the test, not the value
	in
	between
	like
	join
	sum
	difference
	product
	quotient
	rest
	minus
	choice
	length
	abs
	upper
	lower
	nullif
	substr
	coalesce
	greatest
	least
)

// The levels: what stands where a higher one is wanted needs brackets.
const (
	orLevel = 1 + iota
	andLevel
	notLevel
	testLevel
	joinLevel
	sumLevel
	productLevel
	_
	ownLevel // it needs none anywhere
)

// shape is how an expression is written: by which word, on which level; of a function: with how many arguments.
type shape struct {
	word         string
	level        int
	fewest, most int
}

// shapes has one for each op. A text has room for fewer arguments than it may have bytes.
var shapes = [...]shape{
	literal:    {level: ownLevel},
	column:     {level: ownLevel},
	or:         {word: "or", level: orLevel},
	and:        {word: "and", level: andLevel},
	not:        {word: "not", level: notLevel},
	equal:      {word: "=", level: testLevel},
	unequal:    {word: "<>", level: testLevel},
	below:      {word: "<", level: testLevel},
	atMost:     {word: "<=", level: testLevel},
	above:      {word: ">", level: testLevel},
	atLeast:    {word: ">=", level: testLevel},
	null:       {word: "is", level: testLevel},
	in:         {word: "in", level: testLevel},
	between:    {word: "between", level: testLevel},
	like:       {word: "like", level: testLevel},
	join:       {word: "||", level: joinLevel},
	sum:        {word: "+", level: sumLevel},
	difference: {word: "-", level: sumLevel},
	product:    {word: "*", level: productLevel},
	quotient:   {word: "/", level: productLevel},
	rest:       {word: "%", level: productLevel},
	minus:      {word: "-", level: ownLevel},
	choice:     {word: "case", level: ownLevel},
	length:     {word: "length", level: ownLevel, fewest: 1, most: 1},
	abs:        {word: "abs", level: ownLevel, fewest: 1, most: 1},
	upper:      {word: "upper", level: ownLevel, fewest: 1, most: 1},
	lower:      {word: "lower", level: ownLevel, fewest: 1, most: 1},
	nullif:     {word: "nullif", level: ownLevel, fewest: 2, most: 2},
	substr:     {word: "substr", level: ownLevel, fewest: 3, most: 3},
	coalesce:   {word: "coalesce", level: ownLevel, fewest: 1, most: api.MaxExpr},
	greatest:   {word: "greatest", level: ownLevel, fewest: 1, most: api.MaxExpr},
	least:      {word: "least", level: ownLevel, fewest: 1, most: api.MaxExpr},
}

// functionOf is the function of a word; false, if there is none.
func functionOf(word string) (op, bool) {
	for o, s := range shapes {
		if s.fewest > 0 && s.word == word {
			return op(o), true
		}
	}
	return literal, false
}
