// Package fault: how a reader gives up, however deep inside it is.
package fault

import "ribbon/api"

// Fault is what a reader panics with; it is recovered at the face, which makes an answer of it.
type Fault struct {
	Err   api.Errno
	Place int
}
