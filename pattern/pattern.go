// Package pattern reads patterns, turns them into lists of small instructions, and finds them in texts.
package pattern

import (
	"ribbon/api"
	"ribbon/cursor"
	"ribbon/fault"
)

type kind int

const (
	kindByte  kind = iota // takes one of the bytes
	kindBegin             // goes on at the text's beginning
	kindEnd               // goes on at the text's end
	kindNote              // notes the place in the slot
	kindSplit             // goes on by next, then by other
	kindTurn              // ends a turn of a `*`
	kindFound             // ends the pattern
)

type instruction struct {
	kind  kind
	next  int
	other int
	slot  int
	depth int // how many `*` this is a part of; the one that a turn ends is not counted
	bytes set
}

// list is instructions that are being written, from the last one to the first.
type list struct {
	code    []instruction
	depth   int
	deepest int
}

func (l *list) add(in instruction) int {
	l.code = append(l.code, in)
	return len(l.code) - 1
}

// Pattern is a pattern that was read.
type Pattern struct {
	code    []instruction
	begin   int
	groups  int
	deepest int
}

// Read reads the pattern that stands in a source, from a place to the source's end. What it can not read it gives up by a panic with a fault.Fault, with a place of the source.
func Read(source string, from int) *Pattern {
	if len(source)-from > api.MaxPattern {
		panic(fault.Fault{Err: api.ErrLong, Place: from})
	}
	r := reader{Cursor: cursor.Cursor{Source: source, At: from, Err: api.ErrPattern}}
	whole := r.whole()
	if whole.size() > api.MaxSize {
		panic(fault.Fault{Err: api.ErrSize, Place: len(source)})
	}
	var l list
	begin := whole.emit(&l, l.add(instruction{kind: kindFound}))
	return &Pattern{l.code, begin, r.groups, l.deepest}
}

// Groups tells how many groups the pattern has.
func (p *Pattern) Groups() int {
	return p.groups
}
