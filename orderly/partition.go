package orderly

import (
	"sync"

	"orderly/api"
	"orderly/code"
)

// partition is what one partition has by itself.
type partition struct {
	table
	locks
}

func newPartitions(k *known, start []api.Pair) []partition {
	list := make([]partition, k.count())
	for i := range list {
		list[i] = partition{table: newTable(), locks: newLocks(k, i)}
	}
	for _, p := range start {
		list[k.home(p.Key)].put(p.Key, p.Value)
	}
	return list
}

func (p *partition) read() bool {
	o := p.readable()
	if o == nil {
		return false
	}
	o.read = true
	for _, pair := range p.pairs() {
		if p.known.touches(o.txn, pair.Key) {
			o.kept = append(o.kept, pair)
		}
	}
	return true
}

// work puts into results what came of the transactions that it does.
func (p *partition) work(results []api.Result) bool {
	ready := p.ready()
	for i, end := range p.workOut(ready) {
		p.change(end.Changes)
		p.release(ready[i].txn)
		results[ready[i].txn] = api.Result{Done: true, Aborted: end.Aborted, Registers: end.Registers}
	}
	return len(ready) > 0
}

// workOut changes nothing of the partition: the goroutines share what none of them writes into.
func (p *partition) workOut(ready []entry) []code.End {
	ends := make([]code.End, len(ready))
	var workers sync.WaitGroup
	for i, o := range ready {
		workers.Add(1)
		go func() {
			defer workers.Done()
			ends[i] = code.Run(p.known.log[o.txn], o.kept)
		}()
	}
	workers.Wait()
	return ends
}

func (p *partition) change(changes []code.Change) {
	for _, c := range changes {
		if c.Deleted {
			p.remove(c.Key)
		} else {
			p.put(c.Key, c.Value)
		}
	}
}
