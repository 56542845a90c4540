package edit

import "ribbon/api"

// journal has what was told, and written; each thing whole or not at all.
type journal struct {
	out   []byte   // told since a call began
	files [][]byte // as the script's names
	count int      // of all bytes that were told and written
}

func (j *journal) tell(text string) {
	j.out = j.add(j.out, text)
}

func (j *journal) write(file int, text string) {
	j.files[file] = j.add(j.files[file], text)
}

func (j *journal) add(to []byte, text string) []byte {
	j.count += len(text) + 1
	if j.count > api.MaxOut {
		giveUp(api.ErrOut)
	}
	to = append(to, text...)
	return append(to, '\n')
}

func (j *journal) takeOut() string {
	out := string(j.out)
	j.out = nil
	return out
}
