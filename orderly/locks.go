package orderly

import "orderly/api"

// locks is how far a partition has come in the log.
type locks struct {
	upcoming int // the transaction that is let in next, or the log's end
}

func newLocks(upcoming int) locks { return locks{upcoming: upcoming} }

// look tells of Next alone: as long as nothing can be picked, none is open.
func (l *locks) look() api.Look { return api.Look{Next: l.upcoming} }
