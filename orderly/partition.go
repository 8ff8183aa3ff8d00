package orderly

import "orderly/api"

// partition is what one partition has by itself.
type partition struct {
	table
	locks
}

func newPartitions(k *known, start []api.Pair) []partition {
	list := make([]partition, k.count())
	for i := range list {
		list[i] = partition{table: newTable(), locks: newLocks(k.next(i, 0))}
	}
	for _, p := range start {
		list[k.home(p.Key)].put(p.Key, p.Value)
	}
	return list
}
