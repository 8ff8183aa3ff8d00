// Package orderly: transactions whose order is settled before they begin: see DOC.md.
package orderly

import (
	"orderly/api"
	"orderly/check"
)

// Engine runs a log.
type Engine struct {
	known
	partitions []partition
}

// New makes an engine (P3).
func New(c api.Config, log []api.Txn, start ...api.Pair) (*Engine, api.Errno, int) {
	if !check.Config(c) {
		return nil, api.ErrConfig, 0
	}
	if at, ok := check.Log(log); !ok {
		return nil, api.ErrLog, at
	}
	if at, ok := check.Start(start); !ok {
		return nil, api.ErrStart, at
	}
	e := &Engine{known: newKnown(c, log)}
	e.partitions = newPartitions(&e.known, start)
	return e, api.OK, 0
}

// Pick lets a partition go on (P4).
func (e *Engine) Pick(partition, kind, other int) bool { return false }

// Result tells what came of a transaction (P5).
func (e *Engine) Result(txn int) (api.Result, api.Errno) {
	if txn < 0 || txn >= len(e.log) {
		return api.Result{}, api.ErrTxn
	}
	// As long as nothing can be picked, none is done.
	return api.Result{}, api.OK
}

// Table tells what a partition has (P5).
func (e *Engine) Table(partition int) ([]api.Pair, api.Errno) {
	if !e.hasPartition(partition) {
		return nil, api.ErrPartition
	}
	return e.partitions[partition].pairs(), api.OK
}

// Look tells how a partition stands (P5).
func (e *Engine) Look(partition int) (api.Look, api.Errno) {
	if !e.hasPartition(partition) {
		return api.Look{}, api.ErrPartition
	}
	return e.partitions[partition].look(), api.OK
}

// Mail tells how many are under way (P5).
func (e *Engine) Mail(from, to int) (int, api.Errno) {
	if !e.hasPartition(from) || !e.hasPartition(to) || from == to {
		return 0, api.ErrPartition
	}
	// As long as nothing can be picked, none was sent.
	return 0, api.OK
}
