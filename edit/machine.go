// Package edit goes over lines by a script.
package edit

import (
	"ribbon/api"
	"ribbon/fault"
	"ribbon/script"
)

// Machine does what a script says, as far as its input goes. It can be left at any time at which a line is wanted that is not there yet, and goes on where it was.
type Machine struct {
	script *script.Script
	deeds  map[byte]func(*Machine, *script.Command)
	input  input
	journal

	number int    // of the line that was read last
	space  string // what the commands work on
	held   string
	ranges []bool // which of the script's go on

	within   bool            // a cycle
	at       int             // the command that is looked at next
	steps    int             // since a cycle began that read a line
	replaced bool            // since this one began, and since the last `t` that went
	brought  []string        // by `a`, and not told yet
	waits    *script.Command // the one that the machine was left in

	over   bool
	err    api.Errno
	status int
}

// New makes a machine at the beginning of its input.
func New(s *script.Script) *Machine {
	return &Machine{
		script:  s,
		deeds:   deeds(),
		input:   input{ahead: s.Ahead()},
		journal: journal{files: make([][]byte, len(s.Names))},
		ranges:  make([]bool, s.Ranges),
	}
}

// Feed goes as far as these bytes let it.
func (m *Machine) Feed(data string) api.Reply {
	if !m.over {
		m.input.left += data
		m.run()
	}
	return m.reply()
}

// End does all that is left.
func (m *Machine) End() api.Reply {
	if !m.over {
		m.input.ended = true
		m.run()
		// No lines are left, and so nothing is waited for.
		m.over = true
	}
	return m.reply()
}

// Files tells what was written.
func (m *Machine) Files() []api.File {
	files := make([]api.File, len(m.files))
	for i := range files {
		files[i] = api.File{Name: m.script.Names[i], Text: string(m.files[i])}
	}
	return files
}

func (m *Machine) reply() api.Reply {
	if m.over {
		m.input.left = ""
	}
	m.input.settle()
	return api.Reply{Out: m.takeOut(), Over: m.over, Err: m.err, Status: m.status}
}

// run goes on until a line is wanted that is not there, or the editing is over.
func (m *Machine) run() {
	defer func() {
		switch given := recover().(type) {
		case nil:
		case fault.Fault:
			m.over, m.err = true, given.Err
		default:
			// It is no fault of the input, and must not look like an answer.
			panic(given)
		}
	}()
	m.resume()
	for !m.over && m.waits == nil && m.begun() {
		m.look()
	}
}

// resume goes on with the command that the machine was left in, which was looked at then.
func (m *Machine) resume() {
	if c := m.waits; c != nil {
		m.waits = nil
		m.deeds[c.What](m, c)
	}
}

func giveUp(err api.Errno) {
	panic(fault.Fault{Err: err})
}
