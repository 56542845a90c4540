package ribbon

import (
	"ribbon/api"
	"ribbon/fault"
	"ribbon/pattern"
	"ribbon/script"
)

func readPattern(source string) (*pattern.Pattern, api.Errno, int) {
	return caught(func() *pattern.Pattern { return pattern.Read(source, 0) })
}

func readScript(source string) (*script.Script, api.Errno, int) {
	return caught(func() *script.Script { return script.Read(source) })
}

// caught makes an answer of a reader's giving up.
func caught[T any](read func() *T) (result *T, err api.Errno, place int) {
	defer func() {
		switch given := recover().(type) {
		case nil:
		case fault.Fault:
			result, err, place = nil, given.Err, given.Place
		default:
			// It is no fault of what was read, and must not look like an answer.
			panic(given)
		}
	}()
	return read(), api.OK, 0
}
