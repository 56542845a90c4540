package script

import (
	"strings"

	"ribbon/api"
	"ribbon/fault"
	"ribbon/pattern"
)

// What may stand behind a backslash; in NEW the PATTERN's groups may, too.
const (
	escapedText  = "nt\\"
	escapedBytes = escapedText + "/"
	escapedNew   = escapedBytes + "&"
)

func (r *reader) nothing(*Command) {}

func (r *reader) open(*Command) {
	if len(r.blocks) == api.MaxNest {
		panic(fault.Fault{Err: api.ErrNest, Place: r.At - 1})
	}
	r.blocks = append(r.blocks, len(r.script.Commands))
}

func (r *reader) shut(*Command) {
	last := len(r.blocks) - 1
	if last < 0 {
		panic(fault.Fault{Err: api.ErrNest, Place: r.At - 1})
	}
	r.script.Commands[r.blocks[last]].Goal = len(r.script.Commands)
	r.blocks = r.blocks[:last]
}

func (r *reader) label(c *Command) {
	c.Label = r.word()
	if _, ok := r.labels[c.Label]; ok {
		panic(fault.Fault{Err: api.ErrLabel, Place: r.At - len(c.Label)})
	}
	r.labels[c.Label] = len(r.script.Commands)
}

func (r *reader) branch(c *Command) {
	r.blanks()
	if r.seesWord() {
		c.Label = r.word()
	}
	r.wanted = append(r.wanted, goal{len(r.script.Commands), r.At - len(c.Label)})
}

func (r *reader) file(c *Command) {
	c.Name = r.word()
	at, ok := r.names[c.Name]
	if !ok {
		at = len(r.script.Names)
		r.names[c.Name] = at
		r.script.Names = append(r.script.Names, c.Name)
	}
	c.File = at
}

func (r *reader) status(c *Command) {
	r.blanks()
	c.Status = r.number(0, api.MaxStatus)
}

// word reads a LABEL or a NAME, behind any blanks.
func (r *reader) word() string {
	r.blanks()
	from := r.At
	for r.seesWord() {
		if r.At-from == api.MaxName {
			r.GiveUp()
		}
		r.At++
	}
	if r.At == from {
		r.GiveUp()
	}
	return r.Source[from:r.At]
}

func (r *reader) seesWord() bool {
	if r.Ended() {
		return false
	}
	b := r.Source[r.At]
	return 'A' <= b && b <= 'Z' || 'a' <= b && b <= 'z' || '0' <= b && b <= '9'
}

func (r *reader) text(c *Command) {
	r.blanks()
	from := r.At
	var plain []byte
	for !r.Ended() && !r.Sees('\n') {
		plain = append(plain, r.part(escapedText))
	}
	c.Text = Written{r.Source[from:r.At], string(plain)}
}

func (r *reader) replace(c *Command) {
	c.Replace.Pattern = r.pattern()
	c.Replace.New = r.newText(c.Replace.Pattern.Groups())
	r.flags(c)
}

// newText reads a NEW and the `/` behind it.
func (r *reader) newText(groups int) New {
	from := r.At
	var plain []byte
	var holes []Hole
	for !r.shutPart() {
		if group, ok := r.hole(groups); ok {
			holes = append(holes, Hole{len(plain), group})
		} else {
			plain = append(plain, r.part(escapedNew))
		}
	}
	return New{Written{r.Source[from : r.At-1], string(plain)}, holes}
}

// hole goes past a hole of a NEW, if one stands here, and tells what fills it.
func (r *reader) hole(groups int) (group int, ok bool) {
	if r.Take('&') {
		return 0, true
	}
	if !r.Sees('\\') || r.At+1 == len(r.Source) {
		return 0, false
	}
	group = int(r.Source[r.At+1]) - '0'
	if group < 1 || group > groups {
		return 0, false
	}
	r.At += 2
	return group, true
}

// flags leaves what is none, or one that was there, to be refused as what may not stand behind a command.
func (r *reader) flags(c *Command) {
	for {
		switch {
		case !c.Replace.All && r.Take('g'):
			c.Replace.All = true
		case !c.Replace.Print && r.Take('p'):
			c.Replace.Print = true
		case c.Replace.Number == 0 && r.SeesDigit():
			c.Replace.Number = r.number(1, api.MaxNumber)
		case r.Take('w'):
			r.file(c)
			return
		default:
			return
		}
	}
}

func (r *reader) exchange(c *Command) {
	r.Expect('/')
	c.Exchange.From = r.bytesFrom()
	c.Exchange.To = r.bytesTo(len(c.Exchange.From.Plain))
}

// bytesFrom reads the first BYTES of a `y`, of which none may stand there twice.
func (r *reader) bytesFrom() Written {
	from := r.At
	var there [256]bool
	var plain []byte
	for !r.shutPart() {
		at := r.At
		b := r.part(escapedBytes)
		if there[b] {
			r.At = at
			r.GiveUp()
		}
		there[b] = true
		plain = append(plain, b)
	}
	return Written{r.Source[from : r.At-1], string(plain)}
}

// bytesTo reads the second BYTES of a `y`, which must be as many as the first.
func (r *reader) bytesTo(count int) Written {
	from := r.At
	var plain []byte
	for !r.shutPart() {
		if len(plain) == count {
			r.GiveUp()
		}
		plain = append(plain, r.part(escapedBytes))
	}
	if len(plain) < count {
		r.At--
		r.GiveUp()
	}
	return Written{r.Source[from : r.At-1], string(plain)}
}

// pattern reads a PATTERN and the `/` around it. The second one is looked for first, as no fault of the PATTERN is met ahead of it.
func (r *reader) pattern() Pattern {
	r.Expect('/')
	from := r.At
	for !r.shutPart() {
		if r.Take('\\') {
			r.stayInLine()
		}
		r.At++
	}
	end := r.At - 1
	return Pattern{pattern.Read(r.Source[:end], from), r.Source[from:end]}
}

// shutPart goes past the `/` that ends a part of a command, if it stands here.
func (r *reader) shutPart() bool {
	r.stayInLine()
	return r.Take('/')
}

func (r *reader) stayInLine() {
	if r.Ended() || r.Sees('\n') {
		r.GiveUp()
	}
}

// part goes past a byte, or a backslash and what may stand behind it, and tells for which byte it stands.
func (r *reader) part(escaped string) byte {
	if !r.Sees('\\') {
		r.At++
		return r.Source[r.At-1]
	}
	if r.At+1 == len(r.Source) || strings.IndexByte(escaped, r.Source[r.At+1]) < 0 {
		r.GiveUp()
	}
	r.At += 2
	switch b := r.Source[r.At-1]; b {
	case 'n':
		return '\n'
	case 't':
		return '\t'
	default:
		return b
	}
}
