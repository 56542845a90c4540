package edit

import (
	"strconv"
	"strings"

	"ribbon/api"
	"ribbon/script"
)

// deeds tells what each command does. Those that are but places have none.
func deeds() map[byte]func(*Machine, *script.Command) {
	return map[byte]func(*Machine, *script.Command){
		'{': (*Machine).enter,
		'b': (*Machine).branch,
		't': (*Machine).branchIfReplaced,
		'a': (*Machine).bring,
		'i': (*Machine).insert,
		'c': (*Machine).change,
		's': (*Machine).replace,
		'y': (*Machine).exchange,
		'd': (*Machine).drop,
		'D': (*Machine).dropFirst,
		'g': (*Machine).get,
		'G': (*Machine).getBehind,
		'h': (*Machine).hold,
		'H': (*Machine).holdBehind,
		'x': (*Machine).swap,
		'n': (*Machine).next,
		'N': (*Machine).nextBehind,
		'p': (*Machine).print,
		'P': (*Machine).printFirst,
		'l': (*Machine).list,
		'=': (*Machine).tellNumber,
		'q': (*Machine).quit,
		'w': (*Machine).writeSpace,
	}
}

// enter has nothing to do, as the commands of a block stand behind it.
func (m *Machine) enter(*script.Command) {}

func (m *Machine) branch(c *script.Command) {
	m.at = c.Goal
}

func (m *Machine) branchIfReplaced(c *script.Command) {
	if m.replaced {
		m.replaced = false
		m.at = c.Goal
	}
}

func (m *Machine) bring(c *script.Command) {
	m.brought = append(m.brought, c.Text.Plain)
}

func (m *Machine) insert(c *script.Command) {
	m.tell(c.Text.Plain)
}

func (m *Machine) change(c *script.Command) {
	inside := len(c.Addresses) == 2 && !c.Not && m.ranges[c.Range]
	if !inside {
		m.tell(c.Text.Plain)
	}
	m.dropCycle()
}

func (m *Machine) drop(*script.Command) {
	m.dropCycle()
}

func (m *Machine) dropFirst(*script.Command) {
	_, rest, more := strings.Cut(m.space, "\n")
	if !more {
		m.dropCycle()
		return
	}
	m.tellBrought()
	m.begin(rest)
}

func (m *Machine) get(*script.Command) {
	m.space = m.held
}

func (m *Machine) getBehind(*script.Command) {
	m.space = joined(m.space, m.held)
}

func (m *Machine) hold(*script.Command) {
	m.held = m.space
}

func (m *Machine) holdBehind(*script.Command) {
	m.held = joined(m.held, m.space)
}

func (m *Machine) swap(*script.Command) {
	m.space, m.held = m.held, m.space
}

// next tells ahead of the line that it wants: that there is one is known, though it may have to be waited for.
func (m *Machine) next(*script.Command) {
	if m.input.none() {
		m.endAll(0)
		return
	}
	m.tellEnd()
	m.wants = (*Machine).goOnWith
}

func (m *Machine) goOnWith(line string) {
	m.space = line
}

// nextBehind tells ahead of the line that it wants, as next does.
func (m *Machine) nextBehind(*script.Command) {
	if m.input.none() {
		m.endAll(0)
		return
	}
	m.tellBrought()
	m.wants = (*Machine).goOnWithMore
}

func (m *Machine) goOnWithMore(line string) {
	m.space = joined(m.space, line)
}

func (m *Machine) print(*script.Command) {
	m.tell(m.space)
}

func (m *Machine) printFirst(*script.Command) {
	first, _, _ := strings.Cut(m.space, "\n")
	m.tell(first)
}

func (m *Machine) list(*script.Command) {
	m.tell(listed(m.space))
}

func (m *Machine) tellNumber(*script.Command) {
	m.tell(strconv.Itoa(m.number))
}

func (m *Machine) quit(c *script.Command) {
	m.endAll(c.Status)
}

func (m *Machine) writeSpace(c *script.Command) {
	m.write(c.File, m.space)
}

// joined gives up if both are too much for a space, or for what is held.
func joined(text, behind string) string {
	return bounded(text + "\n" + behind)
}

func bounded(text string) string {
	if len(text) > api.MaxSpace {
		giveUp(api.ErrSpace)
	}
	return text
}
