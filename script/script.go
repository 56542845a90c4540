// Package script reads scripts, and tells them anew.
package script

import "ribbon/pattern"

// Script is a flat list: a block's braces are commands as all others are.
type Script struct {
	Quiet    bool
	Commands []Command
	Names    []string // of the files, each once, the first in the script first
	Ranges   int      // how many commands have one
}

// Kind is that of an address.
type Kind int

const (
	KindNumber  Kind = iota // the line with this number
	KindLast                // the last line
	KindPattern             // a space in which it is found
)

// Address says where a command is done.
type Address struct {
	Kind    Kind
	Number  int
	Pattern Pattern
}

// Pattern is a pattern, and how it was written.
type Pattern struct {
	*pattern.Pattern
	Source string
}

// Command is what to do, by its byte, and where. Behind these stand the operands: each command has but its own.
type Command struct {
	Addresses []Address // two at most
	Range     int       // which of the script's it is, if there are two
	Not       bool
	What      byte

	Label    string  // of `:`, `b` and `t`
	Goal     int     // of `b` and `t`: the command to go to; of `{`: its `}`
	Name     string  // of `w`, and of `s` with this flag
	File     int     // where this name stands in the script's
	Status   int     // of `q`
	Text     Written // of `a`, `i` and `c`
	Replace  Replace
	Exchange Exchange
}

// Written is how a text was written, and what it stands for.
type Written struct {
	Source, Plain string
}

// Replace is what `s` has, but the name that it writes to.
type Replace struct {
	Pattern Pattern
	New     New
	All     bool
	Number  int // 0, if there is none
	Print   bool
}

// New is what comes where something was found: a text with holes.
type New struct {
	Written
	Holes []Hole
}

// Hole is filled by what a group noted, or by all that was found, if that is 0. At is how many bytes of the text stand ahead of it.
type Hole struct {
	At, Group int
}

// Exchange is what `y` has.
type Exchange struct {
	From, To Written
}

// Ahead tells whether the script must know if a line is the last one.
func (s *Script) Ahead() bool {
	for i := range s.Commands {
		if s.Commands[i].ahead() {
			return true
		}
	}
	return false
}

func (c *Command) ahead() bool {
	for i := range c.Addresses {
		if c.Addresses[i].Kind == KindLast {
			return true
		}
	}
	return c.What == 'n' || c.What == 'N'
}
