package expr

import (
	"strings"

	"confluence/value"
)

// Print tells it.
func (e *Expr) Print() string {
	switch e.op {
	case literal:
		return value.Print(e.value)
	case column:
		return e.name
	case not:
		return "not " + e.parts[0].within(notLevel)
	case minus:
		return "-(" + e.parts[0].Print() + ")"
	case choice:
		return printChoice(e.parts)
	}
	switch shapes[e.op].level {
	case ownLevel:
		return shapes[e.op].word + "(" + printList(e.parts) + ")"
	case testLevel:
		return e.printTest()
	}
	return e.printRow()
}

// within is it as it stands where a level is wanted.
func (e *Expr) within(level int) string {
	if shapes[e.op].level < level {
		return "(" + e.Print() + ")"
	}
	return e.Print()
}

// printRow tells what an operator holds together from the left.
func (e *Expr) printRow() string {
	s := shapes[e.op]
	return e.parts[0].within(s.level) + " " + s.word + " " + e.parts[1].within(s.level+1)
}

// printTest tells a comparison, or another test.
func (e *Expr) printTest() string {
	left, words := e.parts[0].within(joinLevel), " "+e.words()+" "
	switch e.op {
	case null:
		return left + words + "null"
	case in:
		return left + words + "(" + printList(e.parts[1:]) + ")"
	case between:
		return left + words + e.parts[1].within(joinLevel) + " and " + e.parts[2].within(joinLevel)
	}
	return left + words + e.parts[1].within(joinLevel)
}

// words are those of a test, with its `not`.
func (e *Expr) words() string {
	s := shapes[e.op].word
	switch {
	case !e.not:
		return s
	case e.op == null:
		return s + " not"
	}
	return "not " + s
}

func printList(l []*Expr) string {
	var out strings.Builder
	for i, e := range l {
		if i > 0 {
			out.WriteString(", ")
		}
		out.WriteString(e.Print())
	}
	return out.String()
}

func printChoice(l []*Expr) string {
	out := "case"
	for ; len(l) > 1; l = l[2:] {
		out += " when " + l[0].Print() + " then " + l[1].Print()
	}
	if len(l) == 1 {
		out += " else " + l[0].Print()
	}
	return out + " end"
}
