package edit

import (
	"strings"

	"ribbon/api"
)

// input is what was fed, and is not read yet.
type input struct {
	left  string
	ahead bool // must it be known of a line whether it is the last one?
	ended bool
}

// settle makes what is left the input's own, as what was fed is its owner's.
func (in *input) settle() {
	in.left = strings.Clone(in.left)
}

// none tells whether there is no line more. If it must be known, it is: no line was read then that has neither a byte nor the end behind it.
func (in *input) none() bool {
	return in.ended && in.left == ""
}

// next reads a line, if it is there.
func (in *input) next() (line string, there bool) {
	line, rest, complete := strings.Cut(in.left, "\n")
	if len(line) > api.MaxLine {
		giveUp(api.ErrLine)
	}
	switch {
	case in.ended:
		there = in.left != ""
	case in.ahead:
		there = rest != ""
	default:
		there = complete
	}
	if !there {
		return "", false
	}
	in.left = rest
	return strings.Clone(line), true
}
