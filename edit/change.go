package edit

import (
	"ribbon/api"
	"ribbon/script"
)

func (m *Machine) replace(c *script.Command) {
	text, ok := replaced(m.space, &c.Replace)
	if !ok {
		return
	}
	m.space = bounded(text)
	m.replaced = true
	if c.Replace.Print {
		m.tell(m.space)
	}
	if c.Name != "" {
		m.write(c.File, m.space)
	}
}

// replaced tells what comes of a space, and whether something was replaced. It stops where the space is too large already, lest it grow without bound.
func replaced(space string, r *script.Replace) (text string, ok bool) {
	var all []byte
	count, done := 0, 0
	for place := range r.Pattern.Places(space) {
		count++
		if count < r.Number {
			continue
		}
		all = append(all, space[done:place[0]]...)
		all = appendNew(all, &r.New, space, place)
		done, ok = place[1], true
		if !r.All || len(all) > api.MaxSpace {
			break
		}
	}
	if !ok {
		return space, false
	}
	return string(append(all, space[done:]...)), true
}

func appendNew(all []byte, n *script.New, space string, place []int) []byte {
	done := 0
	for _, h := range n.Holes {
		all = append(all, n.Plain[done:h.At]...)
		done = h.At
		from, to := place[2*h.Group], place[2*h.Group+1]
		if from >= 0 {
			all = append(all, space[from:to]...)
		}
	}
	return append(all, n.Plain[done:]...)
}

func (m *Machine) exchange(c *script.Command) {
	from, to := c.Exchange.From.Plain, c.Exchange.To.Plain
	var becomes [256]byte
	for b := range becomes {
		becomes[b] = byte(b)
	}
	for i := range len(from) {
		becomes[from[i]] = to[i]
	}
	all := []byte(m.space)
	for i, b := range all {
		all[i] = becomes[b]
	}
	m.space = string(all)
}

// listed tells a space such that every byte of it can be seen.
func listed(space string) string {
	var all []byte
	for i := range len(space) {
		switch b := space[i]; {
		case b == '\\':
			all = append(all, `\\`...)
		case b == '\n':
			all = append(all, `\n`...)
		case b == '\t':
			all = append(all, `\t`...)
		case b < 32 || b > 126:
			all = append(all, '\\', '0'+b>>6, '0'+b>>3&7, '0'+b&7)
		default:
			all = append(all, b)
		}
	}
	return string(append(all, '$'))
}
