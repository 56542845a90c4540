// Package script reads scripts, and tells them anew.
package script

import "ribbon/pattern"

// Script is a flat list: a block's braces are commands as all others are.
type Script struct {
	Quiet    bool
	Commands []Command
}

// Kind is that of an address.
type Kind int

const (
	KindNumber  Kind = iota // the line with this number
	KindLast                // the last line
	KindPattern             // a space in which it is found
)

// Address says where a command is done.
type Address struct {
	Kind    Kind
	Number  int
	Pattern Pattern
}

// Pattern is a pattern, and how it was written.
type Pattern struct {
	*pattern.Pattern
	Source string
}

// Command is what to do, by its byte, and where. Behind these stand the operands: each command has but its own.
type Command struct {
	Addresses []Address // two at most
	Not       bool
	What      byte

	Label    string // of `:`, `b` and `t`
	Name     string // of `w`, and of `s` with this flag
	Status   int    // of `q`
	Text     string // of `a`, `i` and `c`, as it was written
	Replace  Replace
	Exchange Exchange
}

// Replace is what `s` has, but the name that it writes to.
type Replace struct {
	Pattern Pattern
	New     string // as it was written
	All     bool
	Number  int // 0, if there is none
	Print   bool
}

// Exchange is what `y` has, as it was written.
type Exchange struct {
	From, To string
}

// Ahead tells whether the script must know if a line is the last one.
func (s *Script) Ahead() bool {
	for i := range s.Commands {
		if s.Commands[i].ahead() {
			return true
		}
	}
	return false
}

func (c *Command) ahead() bool {
	for i := range c.Addresses {
		if c.Addresses[i].Kind == KindLast {
			return true
		}
	}
	return c.What == 'n' || c.What == 'N'
}
