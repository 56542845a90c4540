package ribbon

import (
	"ribbon/api"
	"ribbon/fault"
	"ribbon/pattern"
)

// readPattern makes an answer of a reader's giving up.
func readPattern(source string) (read *pattern.Pattern, err api.Errno, place int) {
	defer func() {
		switch given := recover().(type) {
		case nil:
		case fault.Fault:
			read, err, place = nil, given.Err, given.Place
		default:
			// It is no fault of the pattern, and must not look like an answer.
			panic(given)
		}
	}()
	return pattern.Read(source), api.OK, 0
}
