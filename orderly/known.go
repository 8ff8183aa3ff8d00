package orderly

import (
	"slices"

	"orderly/api"
)

const maxPartitions = api.MaxBounds + 1

// known is what all partitions know. It never changes once it is made.
type known struct {
	config api.Config
	log    []api.Txn
}

// newKnown copies every list: what was handed in stays the caller's.
func newKnown(c api.Config, log []api.Txn) known {
	c.Bounds = slices.Clone(c.Bounds)
	k := known{config: c, log: make([]api.Txn, len(log))}
	for i, t := range log {
		k.log[i] = api.Txn{
			Reads:  slices.Clone(t.Reads),
			Writes: slices.Clone(t.Writes),
			Ranges: slices.Clone(t.Ranges),
			Code:   slices.Clone(t.Code),
		}
	}
	return k
}

// count tells how many partitions there are.
func (k *known) count() int { return len(k.config.Bounds) + 1 }

func (k *known) hasPartition(partition int) bool {
	return 0 <= partition && partition < k.count()
}

// hasTwo tells whether there are two such partitions, and not one named twice.
func (k *known) hasTwo(one, other int) bool {
	return k.hasPartition(one) && k.hasPartition(other) && one != other
}

func (k *known) hasTxn(txn int) bool { return 0 <= txn && txn < len(k.log) }

// home is the partition in which a key lies.
func (k *known) home(key int) int {
	home := 0
	for _, b := range k.config.Bounds {
		if b <= key {
			home++
		}
	}
	return home
}

func (k *known) touches(txn, key int) bool {
	t := k.log[txn]
	has := func(r api.Range) bool { return r.Lo <= key && key <= r.Hi }
	return slices.Contains(t.Reads, key) ||
		slices.Contains(t.Writes, key) ||
		slices.ContainsFunc(t.Ranges, has)
}

// takesPart tells whether a transaction takes part in a partition.
func (k *known) takesPart(txn, partition int) bool {
	t := k.log[txn]
	if len(t.Reads)+len(t.Writes)+len(t.Ranges) == 0 {
		return partition == 0
	}
	lies := func(key int) bool { return k.home(key) == partition }
	// No partition is without keys, so a range lies in each one between those of its ends.
	reaches := func(r api.Range) bool { return k.home(r.Lo) <= partition && partition <= k.home(r.Hi) }
	return slices.ContainsFunc(t.Reads, lies) ||
		slices.ContainsFunc(t.Writes, lies) ||
		slices.ContainsFunc(t.Ranges, reaches)
}

// others is the partitions besides one in which a transaction takes part.
func (k *known) others(txn, partition int) []int {
	var list []int
	for other := range k.count() {
		if other != partition && k.takesPart(txn, other) {
			list = append(list, other)
		}
	}
	return list
}

// next is the first transaction, from a number on, that takes part in a partition; the log's end if none does.
func (k *known) next(partition, from int) int {
	for txn := from; txn < len(k.log); txn++ {
		if k.takesPart(txn, partition) {
			return txn
		}
	}
	return len(k.log)
}

// conflict tells whether two transactions conflict in a partition.
func (k *known) conflict(one, two, partition int) bool {
	return k.disturbs(one, two, partition) || k.disturbs(two, one, partition)
}

// disturbs tells whether a key of a partition stands in the Writes of one transaction and is touched by another.
func (k *known) disturbs(writer, other, partition int) bool {
	return slices.ContainsFunc(k.log[writer].Writes, func(key int) bool {
		return k.home(key) == partition && k.touches(other, key)
	})
}
