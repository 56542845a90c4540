// Package ribbon: an editor that goes over lines by a script: see DOC.md.
package ribbon

import (
	"ribbon/api"
	"ribbon/edit"
	"ribbon/script"
)

// Match finds a pattern in a text (P3, P4).
func Match(pattern string, text string) ([]int, api.Errno, int) {
	if len(text) > api.MaxText {
		return nil, api.ErrLong, 0
	}
	read, err, place := readPattern(pattern)
	if err != api.OK {
		return nil, err, place
	}
	return read.Find(text), api.OK, 0
}

// Program is a script that was read.
type Program struct{ script script.Script }

// Compile reads a script (P5).
func Compile(script string) (*Program, api.Errno, int) {
	read, err, place := readScript(script)
	if err != api.OK {
		return nil, err, place
	}
	return &Program{*read}, api.OK, 0
}

// Text tells the script anew (P6).
func (p *Program) Text() string {
	if p == nil {
		return ""
	}
	return p.script.Text()
}

// Ahead tells whether it must know what comes behind a line (P6).
func (p *Program) Ahead() bool {
	return p != nil && p.script.Ahead()
}

// Start begins to edit (P7).
func (p *Program) Start() *Editor {
	if p == nil {
		return nil
	}
	return &Editor{edit.New(&p.script)}
}

// Editor goes over lines.
type Editor struct{ machine *edit.Machine }

// Feed takes bytes (P8).
func (e *Editor) Feed(data string) api.Reply {
	if e.idle() {
		return api.Reply{}
	}
	return e.machine.Feed(data)
}

// End says that there are no more (P8).
func (e *Editor) End() api.Reply {
	if e.idle() {
		return api.Reply{}
	}
	return e.machine.End()
}

// Files tells what was written to names (P9).
func (e *Editor) Files() []api.File {
	if e.idle() {
		return nil
	}
	return e.machine.Files()
}

// idle tells whether no program started this editor.
func (e *Editor) idle() bool {
	return e == nil || e.machine == nil
}
