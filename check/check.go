// Package check tells what can be handed to New: a configuration, a log, a start.
package check

import "orderly/api"

// Config tells whether c is a configuration.
func Config(c api.Config) bool {
	return bounds(c.Bounds) &&
		within(c.Window, 1, api.MaxWindow) &&
		within(c.Credits, 1, api.MaxCredits) &&
		within(c.Workers, 1, api.MaxWorkers)
}

// Log tells whether log is one; if not, also the place of its fault.
func Log(log []api.Txn) (int, bool) {
	// A log that is too long has its fault at its limit, even if a transaction in it is wrong.
	if len(log) > api.MaxLog {
		return api.MaxLog, false
	}
	for i, t := range log {
		if !transaction(t) {
			return i, false
		}
	}
	return 0, true
}

// Start tells whether start is one; if not, also the place of its fault.
func Start(start []api.Pair) (int, bool) {
	if len(start) > api.MaxStart {
		return api.MaxStart, false
	}
	above := -1
	for i, p := range start {
		if !within(p.Key, above+1, api.MaxKey) {
			return i, false
		}
		above = p.Key
	}
	return 0, true
}

func bounds(list []int) bool {
	if len(list) > api.MaxBounds {
		return false
	}
	// Key 0 can't be a bound: no key would lie in partition 0.
	above := 0
	for _, b := range list {
		if !within(b, above+1, api.MaxKey) {
			return false
		}
		above = b
	}
	return true
}

func within(n, low, high int) bool { return low <= n && n <= high }
