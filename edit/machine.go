// Package edit goes over lines by a script.
package edit

import (
	"ribbon/api"
	"ribbon/fault"
	"ribbon/script"
)

// Machine does what a script says, as far as its input goes. It can be left wherever a line is wanted that is not there yet, between cycles or in the middle of one, and goes on from there.
type Machine struct {
	script *script.Script
	deeds  map[byte]func(*Machine, *script.Command)
	input  input
	journal

	number int    // of the line that was read last
	space  string // what the commands work on
	held   string
	ranges []bool // which of the script's go on

	wants    func(*Machine, string) // what is done with the line that is wanted; nil, if none is
	at       int                    // the command that is looked at next
	steps    int                    // since a cycle began that read a line
	replaced bool                   // since this one began, and since the last `t` that went
	brought  []string               // by `a`, and not told yet

	over   bool
	err    api.Errno
	status int
}

// New makes a machine at the beginning of its input.
func New(s *script.Script) *Machine {
	return &Machine{
		script:  s,
		deeds:   deeds(),
		input:   input{ahead: s.Ahead()},
		journal: journal{files: make([][]byte, len(s.Names))},
		ranges:  make([]bool, s.Ranges),
		wants:   (*Machine).beginWith,
	}
}

// Feed goes as far as these bytes let it.
func (m *Machine) Feed(data string) api.Reply {
	if !m.over {
		m.input.left += data
		m.run()
	}
	return m.reply()
}

// End does all that is left.
func (m *Machine) End() api.Reply {
	if !m.over {
		m.input.ended = true
		m.run()
		// No lines are left, and in the middle of a cycle none is wanted where there is none.
		m.over = true
	}
	return m.reply()
}

// Files tells what was written.
func (m *Machine) Files() []api.File {
	files := make([]api.File, len(m.files))
	for i := range files {
		files[i] = api.File{Name: m.script.Names[i], Text: string(m.files[i])}
	}
	return files
}

func (m *Machine) reply() api.Reply {
	if m.over {
		m.input.left = ""
	}
	m.input.settle()
	return api.Reply{Out: m.takeOut(), Over: m.over, Err: m.err, Status: m.status}
}

// run goes on until a line is wanted that is not there, or the editing is over.
func (m *Machine) run() {
	defer func() {
		switch given := recover().(type) {
		case nil:
		case fault.Fault:
			m.over, m.err = true, given.Err
		default:
			// It is no fault of the input, and must not look like an answer.
			panic(given)
		}
	}()
	for !m.over && m.supplied() {
		m.look()
	}
}

// supplied reads the line that is wanted, if one is; it tells whether the machine can go on.
func (m *Machine) supplied() bool {
	if m.wants == nil {
		return true
	}
	line, there := m.input.next()
	if !there {
		return false
	}
	m.number++
	take := m.wants
	m.wants = nil
	take(m, line)
	return true
}

func giveUp(err api.Errno) {
	panic(fault.Fault{Err: err})
}
