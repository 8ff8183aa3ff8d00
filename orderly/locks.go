package orderly

import (
	"slices"

	"orderly/api"
)

// locks is how far a partition has come in the log.
type locks struct {
	known    *known
	number   int     // the partition's
	upcoming int     // the transaction that is let in next, or the log's end
	open     []entry // in the log's order
}

// entry is a transaction that was let in and is not done.
type entry struct {
	txn  int
	read bool
	kept []api.Pair          // what it has read
	sent [maxPartitions]bool // to which other ones that was sent
}

func newLocks(k *known, number int) locks {
	return locks{known: k, number: number, upcoming: k.next(number, 0)}
}

func (l *locks) admit() bool {
	if !l.known.hasTxn(l.upcoming) || len(l.open) == l.known.config.Window {
		return false
	}
	l.open = append(l.open, entry{txn: l.upcoming})
	l.upcoming = l.known.next(l.number, l.upcoming+1)
	return true
}

// granted looks at the open ones alone: none that is earlier in the log can be let in any more.
func (l *locks) granted(at int) bool {
	for _, earlier := range l.open[:at] {
		if l.known.conflict(earlier.txn, l.open[at].txn, l.number) {
			return false
		}
	}
	return true
}

// readable is the first entry that is granted and has not been read; nil if there is none.
func (l *locks) readable() *entry {
	for at := range l.open {
		if !l.open[at].read && l.granted(at) {
			return &l.open[at]
		}
	}
	return nil
}

// sendable is the first entry that another partition needs and was not sent; nil if there is none.
func (l *locks) sendable(other int) *entry {
	for at := range l.open {
		o := &l.open[at]
		if o.read && !o.sent[other] && l.known.takesPart(o.txn, other) {
			return o
		}
	}
	return nil
}

// release ends a transaction here: those behind it wait for it no more.
func (l *locks) release(txn int) {
	l.open = slices.DeleteFunc(l.open, func(o entry) bool { return o.txn == txn })
}

// done is asked of a transaction that takes part here.
func (l *locks) done(txn int) bool {
	return txn < l.upcoming && !slices.ContainsFunc(l.open, func(o entry) bool { return o.txn == txn })
}

func (l *locks) look() api.Look {
	look := api.Look{Next: l.upcoming, Open: len(l.open)}
	for at, o := range l.open {
		if !l.granted(at) {
			look.Waiting++
		} else if !o.read {
			look.Granted++
		}
	}
	return look
}
