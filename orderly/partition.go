package orderly

import (
	"slices"
	"sync"

	"orderly/api"
	"orderly/code"
)

// partition is what one partition has by itself.
type partition struct {
	table
	locks
	post
}

func newPartitions(k *known, start []api.Pair) []partition {
	list := make([]partition, k.count())
	for i := range list {
		list[i] = partition{table: newTable(), locks: newLocks(k, i)}
	}
	for _, p := range start {
		list[k.home(p.Key)].put(p.Key, p.Value)
	}
	return list
}

func (p *partition) read() bool {
	o := p.readable()
	if o == nil {
		return false
	}
	o.read = true
	for _, pair := range p.pairs() {
		if p.known.touches(o.txn, pair.Key) {
			o.kept = append(o.kept, pair)
		}
	}
	return true
}

func (p *partition) send(to *partition) bool {
	o := p.sendable(to.number)
	if o == nil || to.underWay(p.number) == p.known.config.Credits {
		return false
	}
	o.sent[to.number] = true
	to.join(parcel{from: p.number, txn: o.txn, pairs: o.kept})
	return true
}

// work puts into results what came of the transactions that it does: each partition in which one takes part finds the same.
func (p *partition) work(results []api.Result) bool {
	ready := p.ready()
	for i, end := range p.workOut(ready) {
		txn := ready[i].txn
		p.change(end.Changes)
		p.release(txn)
		p.drop(txn)
		results[txn] = api.Result{Done: true, Aborted: end.Aborted, Registers: end.Registers}
	}
	return len(ready) > 0
}

// ready is the first entries that can be worked out, at most Workers.
func (p *partition) ready() []entry {
	var list []entry
	for _, o := range p.open {
		if o.read && p.exchanged(o) && len(list) < p.known.config.Workers {
			list = append(list, o)
		}
	}
	return list
}

// exchanged tells whether the other partitions of an entry were sent what lies here, and what lies there has come.
func (p *partition) exchanged(o entry) bool {
	for _, other := range p.known.others(o.txn, p.number) {
		if !o.sent[other] || !p.has(o.txn, other) {
			return false
		}
	}
	return true
}

// workOut changes nothing of the partition: the goroutines share what none of them writes into.
func (p *partition) workOut(ready []entry) []code.End {
	ends := make([]code.End, len(ready))
	var workers sync.WaitGroup
	for i, o := range ready {
		workers.Add(1)
		go func() {
			defer workers.Done()
			ends[i] = code.Run(p.known.log[o.txn], slices.Concat(o.kept, p.brought(o.txn)))
		}()
	}
	workers.Wait()
	return ends
}

// change leaves the keys of other partitions to them: each works the transaction out itself.
func (p *partition) change(changes []code.Change) {
	for _, c := range changes {
		if p.known.home(c.Key) != p.number {
			continue
		}
		if c.Deleted {
			p.remove(c.Key)
		} else {
			p.put(c.Key, c.Value)
		}
	}
}
