package edit

import (
	"ribbon/api"
	"ribbon/script"
)

// begun tells whether the machine is within a cycle; it begins one, if a line is there.
func (m *Machine) begun() bool {
	if m.within {
		return true
	}
	line, there := m.input.next()
	if !there {
		return false
	}
	m.number++
	m.space = line
	m.steps = 0
	m.begin()
	return true
}

// begin begins a cycle with the space as it is. The steps are not counted anew, as this may be a cycle that read no line.
func (m *Machine) begin() {
	m.within = true
	m.at = 0
	m.replaced = false
}

// look does the next command, if its addresses say so.
func (m *Machine) look() {
	if m.at == len(m.script.Commands) {
		m.endCycle()
		return
	}
	c := &m.script.Commands[m.at]
	m.at++
	do, ok := m.deeds[c.What]
	if !ok {
		// It is but a place: it does nothing, and is not counted.
		return
	}
	m.steps++
	if m.steps > api.MaxSteps {
		giveUp(api.ErrSteps)
	}
	switch {
	case m.addressed(c) != c.Not:
		do(m, c)
	case c.What == '{':
		m.at = c.Goal
	}
}

func (m *Machine) addressed(c *script.Command) bool {
	switch len(c.Addresses) {
	case 0:
		return true
	case 1:
		return m.says(&c.Addresses[0])
	}
	return m.ranged(c)
}

func (m *Machine) says(a *script.Address) bool {
	switch a.Kind {
	case script.KindNumber:
		return m.number == a.Number
	case script.KindLast:
		return m.input.none()
	}
	return a.Pattern.Find(m.space) != nil
}

// ranged tells whether the command's range goes on, or begins, and keeps whether it goes on behind this.
func (m *Machine) ranged(c *script.Command) bool {
	first, second := &c.Addresses[0], &c.Addresses[1]
	goesOn := &m.ranges[c.Range]
	switch {
	case second.Kind == script.KindNumber:
		inside := *goesOn || m.says(first)
		*goesOn = inside && m.number < second.Number
		return inside
	case *goesOn:
		*goesOn = !m.says(second)
		return true
	}
	*goesOn = m.says(first)
	return *goesOn
}

// endCycle ends the cycle, and tells what comes of it.
func (m *Machine) endCycle() {
	m.tellEnd()
	m.within = false
}

// dropCycle ends the cycle, and tells nothing of the space.
func (m *Machine) dropCycle() {
	m.tellBrought()
	m.within = false
}

func (m *Machine) tellEnd() {
	if !m.script.Quiet {
		m.tell(m.space)
	}
	m.tellBrought()
}

func (m *Machine) tellBrought() {
	for _, text := range m.brought {
		m.tell(text)
	}
	m.brought = nil
}

func (m *Machine) endAll(status int) {
	m.endCycle()
	m.over, m.status = true, status
}

// more reads a line for a command that wants one in the middle of a cycle, if there is one. If it is not there yet, the machine is left in this command.
func (m *Machine) more(c *script.Command) (line string, there bool) {
	if m.input.none() {
		m.endAll(0)
		return "", false
	}
	line, there = m.input.next()
	if there {
		m.number++
	} else {
		m.waits = c
	}
	return line, there
}
