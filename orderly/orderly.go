// Package orderly: transactions whose order is settled before they begin: see DOC.md.
package orderly

import (
	"orderly/api"
	"orderly/check"
)

// Engine runs a log.
type Engine struct {
	known
	partitions []partition
	results    []api.Result // of those that were worked out somewhere
}

// New makes an engine (P3).
func New(c api.Config, log []api.Txn, start ...api.Pair) (*Engine, api.Errno, int) {
	if !check.Config(c) {
		return nil, api.ErrConfig, 0
	}
	if at, ok := check.Log(log); !ok {
		return nil, api.ErrLog, at
	}
	if at, ok := check.Start(start); !ok {
		return nil, api.ErrStart, at
	}
	e := &Engine{known: newKnown(c, log), results: make([]api.Result, len(log))}
	e.partitions = newPartitions(&e.known, start)
	return e, api.OK, 0
}

// Pick lets a partition go on (P4).
func (e *Engine) Pick(partition, kind, other int) bool {
	if !e.hasPartition(partition) {
		return false
	}
	p := &e.partitions[partition]
	switch kind {
	case api.Admit:
		return p.admit()
	case api.Read:
		return p.read()
	case api.Send:
		return e.hasTwo(partition, other) && p.send(&e.partitions[other])
	case api.Take:
		return e.hasTwo(partition, other) && p.take(other)
	case api.Work:
		return p.work(e.results)
	}
	return false
}

// Result tells what came of a transaction (P5).
func (e *Engine) Result(txn int) (api.Result, api.Errno) {
	if !e.hasTxn(txn) {
		return api.Result{}, api.ErrTxn
	}
	for i := range e.partitions {
		if e.takesPart(txn, i) && !e.partitions[i].done(txn) {
			return api.Result{}, api.OK
		}
	}
	return e.results[txn], api.OK
}

// Table tells what a partition has (P5).
func (e *Engine) Table(partition int) ([]api.Pair, api.Errno) {
	if !e.hasPartition(partition) {
		return nil, api.ErrPartition
	}
	return e.partitions[partition].pairs(), api.OK
}

// Look tells how a partition stands (P5).
func (e *Engine) Look(partition int) (api.Look, api.Errno) {
	if !e.hasPartition(partition) {
		return api.Look{}, api.ErrPartition
	}
	return e.partitions[partition].look(), api.OK
}

// Mail tells how many are under way (P5).
func (e *Engine) Mail(from, to int) (int, api.Errno) {
	if !e.hasTwo(from, to) {
		return 0, api.ErrPartition
	}
	return e.partitions[to].underWay(from), api.OK
}
