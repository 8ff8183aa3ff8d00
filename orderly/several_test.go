package orderly_test

import (
	"fmt"
	"slices"
	"testing"

	"orderly/api"
	"orderly/orderly"
)

// Each partition has a key, and a value of its own: a sum tells which of them were seen.
var (
	quarters    = []int{25, 50, 75}
	quarterKeys = []int{10, 25, 74, 99}
	quarterOnes = []api.Pair{{Key: 10, Value: 1}, {Key: 25, Value: 20}, {Key: 74, Value: 300}, {Key: 99, Value: 4000}}
)

// adds sums up keys in register 1.
func adds(keys []int) []api.Ins {
	var code []api.Ins
	for _, key := range keys {
		code = append(code, api.Ins{Kind: api.Get, A: 0, B: key}, api.Ins{Kind: api.Add, A: 1, B: 1, C: 0})
	}
	return code
}

// shape is a transaction that takes part in some partitions, and what its register 1 is at its end.
type shape struct {
	what string
	txn  api.Txn
	in   []int
	sum  int
	puts bool
}

// shapes takes part in all sets of two partitions and more: by Reads alone, by Writes alone, and by a range.
func shapes() []shape {
	var list []shape
	for set := range 1 << 4 {
		var in, keys []int
		sum := 0
		for partition, key := range quarterKeys {
			if set&(1<<partition) != 0 {
				in, keys, sum = append(in, partition), append(keys, key), sum+quarterOnes[partition].Value
			}
		}
		if len(in) < 2 {
			continue
		}
		writing := adds(keys)
		for _, key := range keys {
			writing = append(writing, api.Ins{Kind: api.Put, A: key, B: 1})
		}
		list = append(list,
			shape{fmt.Sprint("reads of ", in), api.Txn{Reads: keys, Code: adds(keys)}, in, sum, false},
			shape{fmt.Sprint("writes of ", in), api.Txn{Writes: keys, Code: writing}, in, sum, true})
		if in[len(in)-1]-in[0] == len(in)-1 {
			over := api.Range{Lo: keys[0], Hi: keys[len(keys)-1]}
			code := []api.Ins{{Kind: api.Sum, A: 1}}
			list = append(list, shape{fmt.Sprint("a range over ", in), api.Txn{Ranges: []api.Range{over}, Code: code}, in, sum, false})
		}
	}
	return list
}

// letInAndRead lets a transaction in and reads it in some partitions.
func letInAndRead(t *testing.T, e *orderly.Engine, in []int) {
	t.Helper()
	for _, partition := range in {
		wantPicks(t, e, true, [3]int{partition, api.Admit}, [3]int{partition, api.Read})
	}
}

// exchanges is what a transaction's partitions have to send to each other and to take.
func exchanges(in []int) [][3]int {
	var sends, takes [][3]int
	for _, one := range in {
		for _, other := range in {
			if one != other {
				sends = append(sends, [3]int{one, api.Send, other})
				takes = append(takes, [3]int{one, api.Take, other})
			}
		}
	}
	return append(sends, takes...)
}

func each(in []int, kind int) [][3]int {
	var list [][3]int
	for _, partition := range in {
		list = append(list, [3]int{partition, kind})
	}
	return list
}

// If one of the exchanges is missing, only the partitions wait that it concerns.
func TestP4WorkWaitsForEachExchange(t *testing.T) {
	for _, x := range shapes() {
		t.Run(x.what, func(t *testing.T) {
			all := exchanges(x.in)
			for _, missing := range all {
				e := wantEngine(t, parted(1, 1, quarters...), []api.Txn{x.txn}, quarterOnes...)
				letInAndRead(t, e, x.in)
				late, waiting := [][3]int{missing}, []int{missing[0]}
				if missing[1] == api.Send {
					late = append(late, [3]int{missing[2], api.Take, missing[0]})
					waiting = append(waiting, missing[2])
				}
				for _, pick := range all {
					if !slices.Contains(late, pick) {
						wantPicks(t, e, true, pick)
					}
				}
				others := slices.DeleteFunc(slices.Clone(x.in), func(p int) bool { return slices.Contains(waiting, p) })
				wantPicks(t, e, true, each(others, api.Work)...)
				wantRefused(t, e, each(x.in, api.Work)...)
				wantResult(t, e, 0, api.Result{})
				wantPicks(t, e, true, late...)
				wantPicks(t, e, true, each(waiting, api.Work)...)
				wantShape(t, e, x)
			}
		})
	}
}

// wantShape holds what is there when a shape is done.
func wantShape(t *testing.T, e *orderly.Engine, x shape) {
	t.Helper()
	if r, f := e.Result(0); !r.Done || r.Aborted || r.Registers[1] != x.sum || f != api.OK {
		t.Errorf("P5: Result(0) = %+v, %d, but register 1 must be %d", r, f, x.sum)
	}
	for partition, start := range quarterOnes {
		want := start
		if x.puts && slices.Contains(x.in, partition) {
			want.Value = x.sum
		}
		wantTable(t, e, partition, want)
	}
	wantNothingToPick(t, e)
}

// Partitions in which a transaction takes no part have nothing to do with it.
func TestP4OnlyThoseThatTakePart(t *testing.T) {
	for _, x := range shapes() {
		e := wantEngine(t, parted(8, 1, quarters...), []api.Txn{x.txn})
		letInAndRead(t, e, x.in)
		for partition := range 4 {
			if slices.Contains(x.in, partition) {
				continue
			}
			wantLook(t, e, partition, 1, 0, 0, 0)
			wantRefused(t, e, [3]int{partition, api.Admit}, [3]int{partition, api.Read}, [3]int{partition, api.Work})
			for other := range 4 {
				wantRefused(t, e, [3]int{partition, api.Send, other}, [3]int{other, api.Send, partition}, [3]int{partition, api.Take, other}, [3]int{other, api.Take, partition})
			}
		}
		wantPicks(t, e, true, exchanges(x.in)...)
		wantPicks(t, e, true, each(x.in, api.Work)...)
		wantDone(t, e, 1, 0)
	}
}

// A partition may take what it has not let in or not read, and keeps it for then.
func TestP4TakenAheadOfReading(t *testing.T) {
	log := []api.Txn{reading(60), adding(60, 10), reading(61)}
	for ahead := range 3 {
		e := wantEngine(t, parted(1, 1, 50), log, api.Pair{Key: 10, Value: 3}, api.Pair{Key: 60, Value: 7})
		wantPicks(t, e, true, [3]int{0, api.Admit}, [3]int{0, api.Read}, [3]int{0, api.Send, 1})
		if ahead == 0 {
			wantPicks(t, e, true, [3]int{1, api.Take, 0})
		}
		wantPicks(t, e, true, [3]int{1, api.Admit}, [3]int{1, api.Admit}, [3]int{1, api.Admit})
		if ahead == 1 {
			wantPicks(t, e, true, [3]int{1, api.Take, 0})
		}
		wantRefused(t, e, [3]int{1, api.Work}, [3]int{1, api.Send, 0})
		wantPicks(t, e, true, [3]int{1, api.Read}, [3]int{1, api.Read})
		wantLook(t, e, 1, 3, 3, 0, 1)
		wantPicks(t, e, true, [3]int{1, api.Work}, [3]int{1, api.Work})
		wantDone(t, e, 3, 0, 2)
		if ahead == 2 {
			wantPicks(t, e, true, [3]int{1, api.Take, 0})
		}
		wantRefused(t, e, [3]int{1, api.Work}, [3]int{1, api.Take, 0})
		wantPicks(t, e, true, [3]int{1, api.Read})
		wantRefused(t, e, [3]int{1, api.Work})
		wantPicks(t, e, true, [3]int{1, api.Send, 0}, [3]int{1, api.Work})
		wantRefused(t, e, [3]int{0, api.Work})
		wantResult(t, e, 1, api.Result{})
		wantPicks(t, e, true, [3]int{0, api.Take, 1}, [3]int{0, api.Work})
		wantResult(t, e, 1, done(8, 1))
		wantTable(t, e, 1, api.Pair{Key: 60, Value: 8})
		wantNothingToPick(t, e)
	}
}

// swapping takes part in two partitions: 10 gets the value of 60 and 60 that of 10, 11 goes and 61 comes.
func swapping(last ...api.Ins) api.Txn {
	code := []api.Ins{{Kind: api.Get, A: 0, B: 10}, {Kind: api.Get, A: 1, B: 60}, {Kind: api.Put, A: 10, B: 1}, {Kind: api.Put, A: 60, B: 0}, {Kind: api.Delete, A: 11}, {Kind: api.Put, A: 61, B: 1}}
	return api.Txn{Writes: []int{10, 11, 60, 61}, Code: append(code, last...)}
}

func swappingStart() []api.Pair {
	return []api.Pair{{Key: 10, Value: 1}, {Key: 11, Value: 2}, {Key: 60, Value: 7}}
}

// What it put and deleted counts in each partition when it is done there, and only for the keys that lie there.
func TestP5DoneInOnePartition(t *testing.T) {
	for first := range 2 {
		second := 1 - first
		e := wantEngine(t, parted(1, 1, 50), []api.Txn{swapping(), reading(10, 60)}, swappingStart()...)
		before := [][]api.Pair{swappingStart()[:2], swappingStart()[2:]}
		after := [][]api.Pair{{{Key: 10, Value: 7}}, {{Key: 60, Value: 1}, {Key: 61, Value: 7}}}
		letInAndRead(t, e, []int{0, 1})
		wantPicks(t, e, true, [3]int{0, api.Admit}, [3]int{1, api.Admit})
		wantPicks(t, e, true, exchanges([]int{0, 1})...)
		wantPicks(t, e, true, [3]int{first, api.Work})
		wantTable(t, e, first, after[first]...)
		wantTable(t, e, second, before[second]...)
		wantResult(t, e, 0, api.Result{})
		wantLook(t, e, first, 2, 1, 1, 0)
		wantLook(t, e, second, 2, 2, 0, 1)
		wantRefused(t, e, [3]int{first, api.Work}, [3]int{second, api.Read}, [3]int{first, api.Send, second})
		// The next one goes on where the first one is done.
		wantPicks(t, e, true, [3]int{first, api.Read}, [3]int{first, api.Send, second}, [3]int{second, api.Take, first})
		wantPicks(t, e, true, [3]int{second, api.Work})
		wantRefused(t, e, [3]int{second, api.Work})
		wantResult(t, e, 0, done(1, 7))
		wantTable(t, e, first, after[first]...)
		wantTable(t, e, second, after[second]...)
		wantResult(t, e, 1, api.Result{})
		wantPicks(t, e, true, [3]int{second, api.Read}, [3]int{second, api.Send, first}, [3]int{second, api.Work})
		wantResult(t, e, 1, api.Result{})
		wantPicks(t, e, true, [3]int{first, api.Take, second}, [3]int{first, api.Work})
		wantResult(t, e, 1, done(7))
	}
}

func TestP5AbortInSeveralPartitions(t *testing.T) {
	start := swappingStart()
	e := wantEngine(t, parted(1, 1, 50), []api.Txn{swapping(api.Ins{Kind: api.Abort}, api.Ins{Kind: api.Const, A: 3, B: 5}), swapping()}, start...)
	letInAndRead(t, e, []int{0, 1})
	wantPicks(t, e, true, exchanges([]int{0, 1})...)
	for partition := range 2 {
		wantResult(t, e, 0, api.Result{})
		wantPicks(t, e, true, [3]int{partition, api.Work})
		wantTable(t, e, 0, start[:2]...)
		wantTable(t, e, 1, start[2:]...)
	}
	wantResult(t, e, 0, api.Result{Done: true, Aborted: true, Registers: [4]int{1, 7}})
	letInAndRead(t, e, []int{0, 1})
	wantPicks(t, e, true, exchanges([]int{0, 1})...)
	wantPicks(t, e, true, each([]int{0, 1}, api.Work)...)
	wantResult(t, e, 1, done(1, 7))
	wantTable(t, e, 0, api.Pair{Key: 10, Value: 7})
	wantTable(t, e, 1, api.Pair{Key: 60, Value: 1}, api.Pair{Key: 61, Value: 7})
}

// What it put and deleted itself it sees in every partition, also of keys that lie elsewhere.
func TestP6OwnChangesElsewhere(t *testing.T) {
	txn := swapping(api.Ins{Kind: api.Get, A: 2, B: 60}, api.Ins{Kind: api.Sum, A: 0}, api.Ins{Kind: api.Count, A: 3}, api.Ins{Kind: api.Put, A: 10, B: 0}, api.Ins{Kind: api.Put, A: 61, B: 3})
	txn.Ranges = []api.Range{{Lo: 10, Hi: 70}}
	for first := range 2 {
		e := wantEngine(t, parted(1, 1, 50), []api.Txn{txn}, append(swappingStart(), api.Pair{Key: 70, Value: 100})...)
		letInAndRead(t, e, []int{0, 1})
		wantPicks(t, e, true, exchanges([]int{1, 0})...)
		wantPicks(t, e, true, [3]int{first, api.Work}, [3]int{1 - first, api.Work})
		wantResult(t, e, 0, done(115, 7, 1, 4))
		wantTable(t, e, 0, api.Pair{Key: 10, Value: 115})
		wantTable(t, e, 1, api.Pair{Key: 60, Value: 1}, api.Pair{Key: 61, Value: 4}, api.Pair{Key: 70, Value: 100})
	}
}

// At most Workers are worked out, and of those that could be, the first ones of the log.
func TestP4WorkersWithSeveralPartitions(t *testing.T) {
	for workers := 1; workers <= 4; workers++ {
		for ready := 0; ready <= 8; ready++ {
			e := wantEngine(t, parted(8, workers, 50), repeated(8, reading(0, 60)))
			for range 8 {
				letInAndRead(t, e, []int{0, 1})
				wantPicks(t, e, true, [3]int{0, api.Send, 1}, [3]int{1, api.Send, 0}, [3]int{1, api.Take, 0})
			}
			// Partition 1 has all, and goes ahead.
			for range (8 + workers - 1) / workers {
				wantPicks(t, e, true, [3]int{1, api.Work})
			}
			wantRefused(t, e, [3]int{1, api.Work})
			for range ready {
				wantPicks(t, e, true, [3]int{0, api.Take, 1})
			}
			var want []int
			for len(want) < ready {
				for range min(workers, ready-len(want)) {
					want = append(want, len(want))
				}
				wantPicks(t, e, true, [3]int{0, api.Work})
				wantDone(t, e, 8, want...)
				wantLook(t, e, 0, 8, 8-len(want), 0, 0)
			}
			wantRefused(t, e, [3]int{0, api.Work})
		}
	}
}

// One that lacks something does not keep later ones from being worked out, nor takes up a worker.
func TestP4WorkPassesOverWhatLacks(t *testing.T) {
	log := []api.Txn{reading(1, 60), adding(2), adding(3, 90), adding(4), adding(5)}
	e := wantEngine(t, parted(2, 2, 50, 80), log)
	for range log {
		wantPicks(t, e, true, [3]int{0, api.Admit}, [3]int{0, api.Read})
	}
	letInAndRead(t, e, []int{2})
	wantPicks(t, e, true, [3]int{2, api.Send, 0}, [3]int{0, api.Take, 2}, [3]int{0, api.Send, 2}, [3]int{2, api.Take, 0}, [3]int{2, api.Work})
	wantPicks(t, e, true, [3]int{0, api.Work})
	wantDone(t, e, 5, 1, 2)
	wantPicks(t, e, true, [3]int{0, api.Work})
	wantDone(t, e, 5, 1, 2, 3, 4)
	wantRefused(t, e, [3]int{0, api.Work})
	wantLook(t, e, 0, 5, 1, 0, 0)
	letInAndRead(t, e, []int{1})
	wantPicks(t, e, true, exchanges([]int{0, 1})...)
	wantPicks(t, e, true, [3]int{0, api.Work}, [3]int{1, api.Work})
	wantDone(t, e, 5, 0, 1, 2, 3, 4)
}

// A transaction reads what the ones before it left in other partitions, as it lay there when it was read.
func TestP6OneBehindTheOther(t *testing.T) {
	log := []api.Txn{swapping(), swapping(), summing(10, 70), swapping()}
	e := wantEngine(t, parted(1, 4, 50), log, swappingStart()...)
	for range 30 {
		for _, x := range picks(2) {
			e.Pick(x[0], x[1], x[2])
		}
	}
	wantResult(t, e, 0, done(1, 7))
	wantResult(t, e, 1, done(7, 1))
	wantResult(t, e, 2, done(9, 3))
	wantResult(t, e, 3, done(1, 7))
	wantTable(t, e, 0, api.Pair{Key: 10, Value: 7})
	wantTable(t, e, 1, api.Pair{Key: 60, Value: 1}, api.Pair{Key: 61, Value: 7})
	wantNothingToPick(t, e)
}
