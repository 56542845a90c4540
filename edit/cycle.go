package edit

import (
	"ribbon/api"
	"ribbon/script"
)

// beginWith begins a cycle with a line.
func (m *Machine) beginWith(line string) {
	m.steps = 0
	m.begin(line)
}

// begin begins a cycle with a space. The steps are not counted anew, as this may be a cycle that read no line.
func (m *Machine) begin(space string) {
	m.space = space
	m.at = 0
	m.replaced = false
}

// look does the next command, if its addresses say so.
func (m *Machine) look() {
	if m.at == len(m.script.Commands) {
		m.endCycle()
		return
	}
	c := &m.script.Commands[m.at]
	m.at++
	do, ok := m.deeds[c.What]
	if !ok {
		// It is but a place: it does nothing, and is not counted.
		return
	}
	m.steps++
	if m.steps > api.MaxSteps {
		giveUp(api.ErrSteps)
	}
	switch {
	case m.addressed(c) != c.Not:
		do(m, c)
	case c.What == '{':
		m.at = c.Goal
	}
}

func (m *Machine) addressed(c *script.Command) bool {
	switch len(c.Addresses) {
	case 0:
		return true
	case 1:
		return m.says(&c.Addresses[0])
	}
	return m.ranged(c)
}

func (m *Machine) says(a *script.Address) bool {
	switch a.Kind {
	case script.KindNumber:
		return m.number == a.Number
	case script.KindLast:
		return m.input.none()
	}
	return a.Pattern.Find(m.space) != nil
}

// ranged tells whether the command's range goes on, or begins, and keeps whether it goes on behind this.
func (m *Machine) ranged(c *script.Command) bool {
	first, second := &c.Addresses[0], &c.Addresses[1]
	goesOn := &m.ranges[c.Range]
	switch {
	case second.Kind == script.KindNumber:
		inside := *goesOn || m.says(first)
		*goesOn = inside && m.number < second.Number
		return inside
	case *goesOn:
		*goesOn = !m.says(second)
		return true
	}
	*goesOn = m.says(first)
	return *goesOn
}

// endCycle ends the cycle, and tells what comes of it.
func (m *Machine) endCycle() {
	m.tellEnd()
	m.wants = (*Machine).beginWith
}

// dropCycle ends the cycle, and tells nothing of the space.
func (m *Machine) dropCycle() {
	m.tellBrought()
	m.wants = (*Machine).beginWith
}

func (m *Machine) tellEnd() {
	if !m.script.Quiet {
		m.tell(m.space)
	}
	m.tellBrought()
}

func (m *Machine) tellBrought() {
	for _, text := range m.brought {
		m.tell(text)
	}
	m.brought = nil
}

func (m *Machine) endAll(status int) {
	m.endCycle()
	m.over, m.status = true, status
}
