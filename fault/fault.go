// Package fault: how what can not go on gives up, however deep inside it is.
package fault

import "ribbon/api"

// Fault is what a reader, or a machine, panics with; it is recovered at the face, which makes an answer of it.
type Fault struct {
	Err   api.Errno
	Place int // of a source that was read
}
