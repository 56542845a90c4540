// Package cursor goes through a source from the front, byte by byte.
package cursor

import (
	"ribbon/api"
	"ribbon/fault"
)

// Cursor is what every reader embeds; At is the place of the byte that it looks at.
type Cursor struct {
	Source string
	At     int
	Err    api.Errno // what it gives up with
}

// GiveUp ends the reading, however deep inside it is, with the place that the cursor is at.
func (c *Cursor) GiveUp() {
	panic(fault.Fault{Err: c.Err, Place: c.At})
}

func (c *Cursor) Ended() bool {
	return c.At == len(c.Source)
}

func (c *Cursor) Sees(b byte) bool {
	return !c.Ended() && c.Source[c.At] == b
}

func (c *Cursor) SeesDigit() bool {
	return !c.Ended() && '0' <= c.Source[c.At] && c.Source[c.At] <= '9'
}

// Take goes past b, if it stands here.
func (c *Cursor) Take(b byte) bool {
	if !c.Sees(b) {
		return false
	}
	c.At++
	return true
}

func (c *Cursor) Expect(b byte) {
	if !c.Take(b) {
		c.GiveUp()
	}
}
