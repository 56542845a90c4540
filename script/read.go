package script

import (
	"strings"

	"ribbon/api"
	"ribbon/cursor"
	"ribbon/fault"
)

// reader goes through a script once, from the front.
type reader struct {
	cursor.Cursor
	script   Script
	operands map[byte]func(*reader, *Command)
	blocks   []int          // the `{` of those that are open
	labels   map[string]int // the commands that they stand at
	names    map[string]int // where they stand in the script's
	wanted   []goal
}

// goal is a label that a command goes to, which is known only at the script's end.
type goal struct {
	command int
	place   int
}

// Read reads a script. What it can not read it gives up by a panic with a fault.Fault.
func Read(source string) *Script {
	if len(source) > api.MaxScript {
		panic(fault.Fault{Err: api.ErrLong, Place: 0})
	}
	// What a script keeps of its source must not be the caller's memory.
	own := strings.Clone(source)
	r := reader{
		Cursor:   cursor.Cursor{Source: own, Err: api.ErrScript},
		operands: operands(),
		labels:   map[string]int{},
		names:    map[string]int{},
	}
	r.whole()
	return &r.script
}

// operands tells how to read what stands behind the byte of each command.
func operands() map[byte]func(*reader, *Command) {
	return map[byte]func(*reader, *Command){
		'{': (*reader).open,
		'}': (*reader).shut,
		':': (*reader).label,
		'b': (*reader).branch,
		't': (*reader).branch,
		'a': (*reader).text,
		'i': (*reader).text,
		'c': (*reader).text,
		's': (*reader).replace,
		'y': (*reader).exchange,
		'q': (*reader).status,
		'w': (*reader).file,
		'd': (*reader).nothing,
		'D': (*reader).nothing,
		'g': (*reader).nothing,
		'G': (*reader).nothing,
		'h': (*reader).nothing,
		'H': (*reader).nothing,
		'x': (*reader).nothing,
		'n': (*reader).nothing,
		'N': (*reader).nothing,
		'p': (*reader).nothing,
		'P': (*reader).nothing,
		'l': (*reader).nothing,
		'=': (*reader).nothing,
	}
}

func (r *reader) whole() {
	r.script.Quiet = r.Source == quiet || strings.HasPrefix(r.Source, quiet+"\n")
	for r.between(); !r.Ended(); r.between() {
		r.command()
	}
	if len(r.blocks) > 0 {
		panic(fault.Fault{Err: api.ErrNest, Place: r.At})
	}
	for _, g := range r.wanted {
		r.resolve(g)
	}
}

func (r *reader) resolve(g goal) {
	c := &r.script.Commands[g.command]
	if c.Label == "" {
		c.Goal = len(r.script.Commands)
		return
	}
	at, ok := r.labels[c.Label]
	if !ok {
		panic(fault.Fault{Err: api.ErrLabel, Place: g.place})
	}
	c.Goal = at
}

// between goes past what may stand ahead of a command.
func (r *reader) between() {
	for {
		switch {
		case r.Sees('#'):
			r.comment()
		case !r.Take('\n') && !r.Take(';') && !r.blank():
			return
		}
	}
}

func (r *reader) comment() {
	for !r.Ended() && !r.Sees('\n') {
		r.At++
	}
}

func (r *reader) blank() bool {
	return r.Take(' ') || r.Take('\t')
}

func (r *reader) blanks() {
	for r.blank() {
	}
}

func (r *reader) command() {
	c := Command{Addresses: r.addresses()}
	if len(c.Addresses) == 2 {
		c.Range = r.script.Ranges
		r.script.Ranges++
	}
	r.blanks()
	if r.Take('!') {
		c.Not = true
		r.blanks()
	}
	r.what(&c)
	r.script.Commands = append(r.script.Commands, c)
	if c.What != '{' {
		r.end()
	}
}

func (r *reader) what(c *Command) {
	if r.Ended() {
		r.GiveUp()
	}
	c.What = r.Source[r.At]
	read, ok := r.operands[c.What]
	if !ok {
		r.GiveUp()
	}
	// These two are refused here whatever else is wrong with them.
	bare := c.What == '}' || c.What == ':'
	if bare && (c.Not || len(c.Addresses) > 0) {
		r.GiveUp()
	}
	r.At++
	read(r, c)
}

// end looks whether a command may end here. What it finds is gone past, or read, by others.
func (r *reader) end() {
	r.blanks()
	if !r.Ended() && !r.Sees('\n') && !r.Sees(';') && !r.Sees('#') && !r.Sees('}') {
		r.GiveUp()
	}
}

func (r *reader) addresses() []Address {
	if !r.seesAddress() {
		return nil
	}
	all := []Address{r.address()}
	if r.Take(',') {
		all = append(all, r.address())
	}
	return all
}

func (r *reader) seesAddress() bool {
	return r.SeesDigit() || r.Sees('$') || r.Sees('/')
}

func (r *reader) address() Address {
	switch {
	case r.SeesDigit():
		return Address{Kind: KindNumber, Number: r.number(1, api.MaxNumber)}
	case r.Take('$'):
		return Address{Kind: KindLast}
	}
	return Address{Kind: KindPattern, Pattern: r.pattern()}
}

// number reads a decimal number without noughts ahead.
func (r *reader) number(least, most int) int {
	value := 0
	for from := r.At; r.SeesDigit(); r.At++ {
		behindNought := value == 0 && r.At > from
		value = 10*value + int(r.Source[r.At]-'0')
		if behindNought || value < least || value > most {
			r.GiveUp()
		}
	}
	return value
}
