package script

import (
	"strings"

	"ribbon/api"
	"ribbon/fault"
	"ribbon/pattern"
)

// What may stand behind a backslash; in NEW the groups may, too.
const (
	escapedText  = "nt\\"
	escapedBytes = escapedText + "/"
	escapedNew   = escapedBytes + "&"
)

// groupDigits are those of all groups that a PATTERN can have.
const groupDigits = "123456789"

func (r *reader) nothing(*Command) {}

func (r *reader) open(*Command) {
	if r.depth == api.MaxNest {
		panic(fault.Fault{Err: api.ErrNest, Place: r.At - 1})
	}
	r.depth++
}

func (r *reader) shut(*Command) {
	if r.depth == 0 {
		panic(fault.Fault{Err: api.ErrNest, Place: r.At - 1})
	}
	r.depth--
}

func (r *reader) label(c *Command) {
	c.Label = r.word()
	if _, ok := r.labels[c.Label]; ok {
		panic(fault.Fault{Err: api.ErrLabel, Place: r.At - len(c.Label)})
	}
	r.labels[c.Label] = len(r.script.Commands)
}

func (r *reader) branch(c *Command) {
	r.blanks()
	if !r.seesWord() {
		return
	}
	c.Label = r.word()
	r.wanted = append(r.wanted, goal{c.Label, r.At - len(c.Label)})
}

func (r *reader) file(c *Command) {
	c.Name = r.word()
}

func (r *reader) status(c *Command) {
	r.blanks()
	c.Status = r.number(0, api.MaxStatus)
}

// word reads a LABEL or a NAME, behind any blanks.
func (r *reader) word() string {
	r.blanks()
	from := r.At
	for r.seesWord() {
		if r.At-from == api.MaxName {
			r.GiveUp()
		}
		r.At++
	}
	if r.At == from {
		r.GiveUp()
	}
	return r.Source[from:r.At]
}

func (r *reader) seesWord() bool {
	if r.Ended() {
		return false
	}
	b := r.Source[r.At]
	return 'A' <= b && b <= 'Z' || 'a' <= b && b <= 'z' || '0' <= b && b <= '9'
}

func (r *reader) text(c *Command) {
	r.blanks()
	from := r.At
	for !r.Ended() && !r.Sees('\n') {
		r.part(escapedText)
	}
	c.Text = r.Source[from:r.At]
}

func (r *reader) replace(c *Command) {
	c.Replace.Pattern = r.pattern()
	escaped := escapedNew + groupDigits[:c.Replace.Pattern.Groups()]
	from := r.At
	for !r.shutPart() {
		r.part(escaped)
	}
	c.Replace.New = r.Source[from : r.At-1]
	r.flags(c)
}

// flags leaves what is none, or one that was there, to be refused as what may not stand behind a command.
func (r *reader) flags(c *Command) {
	for {
		switch {
		case !c.Replace.All && r.Take('g'):
			c.Replace.All = true
		case !c.Replace.Print && r.Take('p'):
			c.Replace.Print = true
		case c.Replace.Number == 0 && r.SeesDigit():
			c.Replace.Number = r.number(1, api.MaxNumber)
		case r.Take('w'):
			c.Name = r.word()
			return
		default:
			return
		}
	}
}

func (r *reader) exchange(c *Command) {
	r.Expect('/')
	from := r.At
	count := r.bytesFrom()
	c.Exchange.From = r.Source[from : r.At-1]
	from = r.At
	r.bytesTo(count)
	c.Exchange.To = r.Source[from : r.At-1]
}

// bytesFrom reads the first BYTES of a `y`, and tells how many these are.
func (r *reader) bytesFrom() int {
	var there [256]bool
	count := 0
	for !r.shutPart() {
		at := r.At
		b := r.part(escapedBytes)
		if there[b] {
			r.At = at
			r.GiveUp()
		}
		there[b] = true
		count++
	}
	return count
}

// bytesTo reads the second BYTES of a `y`, which must be as many as the first.
func (r *reader) bytesTo(count int) {
	for ; !r.shutPart(); count-- {
		if count == 0 {
			r.GiveUp()
		}
		r.part(escapedBytes)
	}
	if count > 0 {
		r.At--
		r.GiveUp()
	}
}

// pattern reads a PATTERN and the `/` around it. The second one is looked for first, as no fault of the PATTERN is met ahead of it.
func (r *reader) pattern() Pattern {
	r.Expect('/')
	from := r.At
	for !r.shutPart() {
		if r.Take('\\') {
			r.stayInLine()
		}
		r.At++
	}
	end := r.At - 1
	return Pattern{pattern.Read(r.Source[:end], from), r.Source[from:end]}
}

// shutPart goes past the `/` that ends a part of a command, if it stands here.
func (r *reader) shutPart() bool {
	r.stayInLine()
	return r.Take('/')
}

func (r *reader) stayInLine() {
	if r.Ended() || r.Sees('\n') {
		r.GiveUp()
	}
}

// part goes past a byte, or a backslash and what may stand behind it, and tells for which byte it stands.
func (r *reader) part(escaped string) byte {
	if !r.Sees('\\') {
		r.At++
		return r.Source[r.At-1]
	}
	if r.At+1 == len(r.Source) || strings.IndexByte(escaped, r.Source[r.At+1]) < 0 {
		r.GiveUp()
	}
	r.At += 2
	switch b := r.Source[r.At-1]; b {
	case 'n':
		return '\n'
	case 't':
		return '\t'
	default:
		return b
	}
}
