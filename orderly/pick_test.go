package orderly_test

import (
	"reflect"
	"testing"

	"orderly/api"
	"orderly/orderly"
)

// picks are partitions, kinds and others, in turn; each must be answered as wanted.
func wantPicks(t *testing.T, e *orderly.Engine, want bool, picks ...[3]int) {
	t.Helper()
	for _, p := range picks {
		if got := e.Pick(p[0], p[1], p[2]); got != want {
			t.Errorf("P4: Pick(%d, %d, %d) is %v", p[0], p[1], p[2], got)
		}
	}
}

// times is a pick of partition 0, over and over.
func times(n, kind int) [][3]int {
	list := make([][3]int, n)
	for i := range list {
		list[i] = [3]int{0, kind, 0}
	}
	return list
}

func wantLook(t *testing.T, e *orderly.Engine, partition, next, open, granted, waiting int) {
	t.Helper()
	want := api.Look{Next: next, Open: open, Granted: granted, Waiting: waiting}
	if got, f := e.Look(partition); f != api.OK || got != want {
		t.Errorf("P5: Look(%d) = %+v, %d, not %+v", partition, got, f, want)
	}
}

func wantResult(t *testing.T, e *orderly.Engine, txn int, want api.Result) {
	t.Helper()
	if got, f := e.Result(txn); f != api.OK || got != want {
		t.Errorf("P5: Result(%d) = %+v, %d, not %+v", txn, got, f, want)
	}
}

// wantDone holds that those are done and no others.
func wantDone(t *testing.T, e *orderly.Engine, count int, done ...int) {
	t.Helper()
	want := make([]bool, count)
	for _, txn := range done {
		want[txn] = true
	}
	for txn := range want {
		if got, f := e.Result(txn); f != api.OK || got.Done != want[txn] {
			t.Errorf("P5: Result(%d) = %+v, %d, but Done must be %v", txn, got, f, want[txn])
		}
	}
}

func done(registers ...int) api.Result {
	r := api.Result{Done: true}
	copy(r.Registers[:], registers)
	return r
}

func single(window, workers int) api.Config {
	return api.Config{Window: window, Credits: 1, Workers: workers}
}

func reading(keys ...int) api.Txn {
	return api.Txn{Reads: keys, Code: []api.Ins{{Kind: api.Get, B: keys[0]}}}
}

// adding adds 1 to a key, and may write some more.
func adding(key int, more ...int) api.Txn {
	return api.Txn{Writes: append([]int{key}, more...), Code: []api.Ins{{Kind: api.Get, B: key}, {Kind: api.Const, A: 1, B: 1}, {Kind: api.Add, A: 0, B: 0, C: 1}, {Kind: api.Put, A: key}}}
}

func summing(lo, hi int) api.Txn {
	return api.Txn{Ranges: []api.Range{{Lo: lo, Hi: hi}}, Code: []api.Ins{{Kind: api.Sum}, {Kind: api.Count, A: 1}}}
}

func TestP4AdmitWindow(t *testing.T) {
	for window := 1; window <= 8; window++ {
		e := wantEngine(t, single(window, 1), txns(24))
		wantPicks(t, e, true, times(window-1, api.Admit)...)
		wantLook(t, e, 0, window-1, window-1, window-1, 0)
		wantPicks(t, e, true, times(1, api.Admit)...)
		wantPicks(t, e, false, times(2, api.Admit)...)
		wantLook(t, e, 0, window, window, window, 0)
		wantPicks(t, e, true, times(1, api.Read)...)
		wantPicks(t, e, false, times(1, api.Admit)...)
		wantPicks(t, e, true, times(1, api.Work)...)
		wantLook(t, e, 0, window, window-1, window-1, 0)
		wantPicks(t, e, true, times(1, api.Admit)...)
		wantPicks(t, e, false, times(1, api.Admit)...)
		wantLook(t, e, 0, window+1, window, window, 0)
	}
}

func TestP4AdmitToTheLogsEnd(t *testing.T) {
	e := wantEngine(t, single(8, 1), nil)
	wantPicks(t, e, false, times(1, api.Admit)...)
	wantLook(t, e, 0, 0, 0, 0, 0)
	e = wantEngine(t, single(8, 1), txns(7))
	wantPicks(t, e, true, times(7, api.Admit)...)
	wantPicks(t, e, false, times(1, api.Admit)...)
	wantLook(t, e, 0, 7, 7, 7, 0)
}

// Each partition goes through the log by itself, and passes over what takes no part in it.
func TestP4AdmitWhatTakesPart(t *testing.T) {
	log := []api.Txn{reading(60), reading(1), {}, reading(60), reading(2, 61), summing(70, 80), reading(3)}
	e := wantEngine(t, api.Config{Bounds: []int{50}, Window: 8, Credits: 1, Workers: 4}, log)
	for i, next := range []int{1, 2, 4, 6, 7} {
		wantLook(t, e, 0, next, i, i, 0)
		wantPicks(t, e, next < 7, [3]int{0, api.Admit, 1})
	}
	for i, next := range []int{0, 3, 4, 5, 7} {
		wantLook(t, e, 1, next, i, i, 0)
		wantPicks(t, e, next < 7, [3]int{1, api.Admit, 0})
	}
	wantLook(t, e, 0, 7, 4, 4, 0)
}

func TestP4Conflicts(t *testing.T) {
	for _, x := range []struct {
		what     string
		one, two api.Txn
		want     bool
	}{
		{"two writers", adding(5), adding(5), true},
		{"a writer and a reader", adding(5), reading(5), true},
		{"a writer and a range", adding(5), summing(0, 9), true},
		{"a writer and a range's first key", adding(5), summing(5, 9), true},
		{"a writer and a range's last key", adding(5), summing(0, 5), true},
		{"two readers", reading(5), reading(5), false},
		{"a reader and a range", reading(5), summing(0, 9), false},
		{"two ranges", summing(0, 9), summing(5, 20), false},
		{"writers of two keys", adding(5), adding(6), false},
		{"a writer and a reader of another key", adding(5), reading(4, 6, 7), false},
		{"a writer and a range below", adding(5), summing(0, 4), false},
		{"a writer and a range above", adding(5), summing(6, 99), false},
		{"a writer's last key", adding(5, 6, 7, 99), reading(1, 2, 99), true},
		{"a writer that puts nothing", api.Txn{Writes: []int{5}}, reading(5), true},
		{"nothing and a writer", api.Txn{}, adding(0), false},
		{"nothing and nothing", api.Txn{}, api.Txn{}, false},
	} {
		for _, log := range [][]api.Txn{{x.one, x.two}, {x.two, x.one}} {
			e := wantEngine(t, single(2, 2), log)
			wantPicks(t, e, true, times(2, api.Admit)...)
			waiting := 0
			if x.want {
				waiting = 1
			}
			t.Run(x.what, func(t *testing.T) {
				wantLook(t, e, 0, 2, 2, 2-waiting, waiting)
				wantPicks(t, e, true, times(1, api.Read)...)
				wantPicks(t, e, !x.want, times(1, api.Read)...)
				wantLook(t, e, 0, 2, 2, 0, waiting)
				wantPicks(t, e, true, times(1, api.Work)...)
				wantLook(t, e, 0, 2, waiting, waiting, 0)
			})
		}
	}
}

// Only the keys of a partition are a conflict there.
func TestP4ConflictsInAPartition(t *testing.T) {
	log := []api.Txn{adding(5, 60), adding(6, 60), {Reads: []int{5}, Ranges: []api.Range{{Lo: 61, Hi: 70}}}}
	e := wantEngine(t, api.Config{Bounds: []int{50}, Window: 3, Credits: 1, Workers: 1}, log)
	for range 3 {
		wantPicks(t, e, true, [3]int{0, api.Admit}, [3]int{1, api.Admit})
	}
	wantLook(t, e, 0, 3, 3, 2, 1)
	wantLook(t, e, 1, 3, 3, 2, 1)
	wantPicks(t, e, true, [3]int{0, api.Read}, [3]int{0, api.Read}, [3]int{1, api.Read}, [3]int{1, api.Read})
	wantPicks(t, e, false, [3]int{0, api.Read}, [3]int{1, api.Read})
	// Each of them lacks what lies in the other partition.
	wantPicks(t, e, false, [3]int{0, api.Work}, [3]int{1, api.Work})
	wantDone(t, e, 3)
}

// One waits also for one that waits itself, and for one that has been read.
func TestP4WaitingInALine(t *testing.T) {
	e := wantEngine(t, single(8, 4), []api.Txn{adding(5), adding(6, 5), adding(7, 6), reading(8)})
	wantPicks(t, e, true, times(4, api.Admit)...)
	wantLook(t, e, 0, 4, 4, 2, 2)
	wantPicks(t, e, true, times(2, api.Read)...)
	wantPicks(t, e, false, times(1, api.Read)...)
	wantLook(t, e, 0, 4, 4, 0, 2)
	wantPicks(t, e, true, times(1, api.Work)...)
	wantDone(t, e, 4, 0, 3)
	wantLook(t, e, 0, 4, 2, 1, 1)
	wantPicks(t, e, true, times(1, api.Read)...)
	wantPicks(t, e, false, times(1, api.Read)...)
	wantPicks(t, e, true, times(1, api.Work)...)
	wantDone(t, e, 4, 0, 1, 3)
	wantPicks(t, e, true, [3]int{0, api.Read}, [3]int{0, api.Work})
	wantDone(t, e, 4, 0, 1, 2, 3)
}

// The first one of the log that can be read is, even if later ones have been read before.
func TestP4ReadsTheFirstOne(t *testing.T) {
	e := wantEngine(t, single(8, 1), []api.Txn{adding(5), reading(5), reading(6), reading(7)})
	wantPicks(t, e, true, times(4, api.Admit)...)
	wantPicks(t, e, true, [3]int{0, api.Read}, [3]int{0, api.Read}, [3]int{0, api.Work}) // 0 and 2 are read, 0 is done
	wantDone(t, e, 4, 0)
	wantPicks(t, e, true, [3]int{0, api.Read}, [3]int{0, api.Work}) // 1 goes ahead of 2 and 3
	wantDone(t, e, 4, 0, 1)
	wantResult(t, e, 1, done(1))
	wantPicks(t, e, true, [3]int{0, api.Work})
	wantDone(t, e, 4, 0, 1, 2)
	wantPicks(t, e, false, [3]int{0, api.Work})
	wantLook(t, e, 0, 4, 1, 1, 0)
}

func TestP4WorkersAtMost(t *testing.T) {
	for workers := 1; workers <= 4; workers++ {
		for ready := 0; ready <= 8; ready++ {
			e := wantEngine(t, single(8, workers), txns(8))
			wantPicks(t, e, true, times(8, api.Admit)...)
			wantPicks(t, e, true, times(ready, api.Read)...)
			var want []int
			for len(want) < ready {
				for range min(workers, ready-len(want)) {
					want = append(want, len(want))
				}
				wantPicks(t, e, true, times(1, api.Work)...)
				wantDone(t, e, 8, want...)
				wantLook(t, e, 0, 8, 8-len(want), 8-ready, 0)
			}
			wantPicks(t, e, false, times(1, api.Work)...)
			wantDone(t, e, 8, want...)
		}
	}
}

// One that waits does not keep later ones from being worked out.
func TestP4WorkPassesOver(t *testing.T) {
	e := wantEngine(t, single(8, 2), []api.Txn{adding(5), adding(5), adding(6), adding(7)})
	wantPicks(t, e, true, times(4, api.Admit)...)
	wantPicks(t, e, true, times(3, api.Read)...)
	wantPicks(t, e, true, times(1, api.Work)...)
	wantDone(t, e, 4, 0, 2)
	wantPicks(t, e, true, times(1, api.Work)...)
	wantDone(t, e, 4, 0, 2, 3)
	wantPicks(t, e, false, times(1, api.Work)...)
	wantTable(t, e, 0, api.Pair{Key: 5, Value: 1}, api.Pair{Key: 6, Value: 1}, api.Pair{Key: 7, Value: 1})
	wantPicks(t, e, true, [3]int{0, api.Read}, [3]int{0, api.Work})
	wantTable(t, e, 0, api.Pair{Key: 5, Value: 2}, api.Pair{Key: 6, Value: 1}, api.Pair{Key: 7, Value: 1})
}

// Nothing counts before Work, and at an Abort nothing at all.
func TestP4WhatCounts(t *testing.T) {
	changes := []api.Ins{{Kind: api.Const, A: 2, B: 9}, {Kind: api.Put, A: 5, B: 2}, {Kind: api.Put, A: 7, B: 2}, {Kind: api.Delete, A: 6}, {Kind: api.Sum, A: 1}, {Kind: api.Count, A: 3}}
	txn := api.Txn{Writes: []int{5, 6, 7}, Ranges: []api.Range{{Lo: 0, Hi: 99}}, Code: changes}
	start := []api.Pair{{Key: 5, Value: 50}, {Key: 6, Value: 60}, {Key: 99, Value: 1}}
	after := []api.Pair{{Key: 5, Value: 9}, {Key: 7, Value: 9}, {Key: 99, Value: 1}}
	for _, x := range []struct {
		last  []api.Ins
		table []api.Pair
		want  api.Result
	}{
		{nil, after, done(0, 19, 9, 3)},
		{[]api.Ins{{Kind: api.Abort}, {Kind: api.Const, A: 0, B: 4}}, start, api.Result{Done: true, Aborted: true, Registers: [4]int{0, 19, 9, 3}}},
	} {
		txn.Code = append(changes, x.last...)
		e := wantEngine(t, single(1, 1), []api.Txn{txn}, start...)
		wantPicks(t, e, true, [3]int{0, api.Admit}, [3]int{0, api.Read})
		wantTable(t, e, 0, start...)
		wantResult(t, e, 0, api.Result{})
		wantPicks(t, e, true, [3]int{0, api.Work})
		wantTable(t, e, 0, x.table...)
		wantResult(t, e, 0, x.want)
	}
}

func TestP4TouchesNothing(t *testing.T) {
	log := []api.Txn{{}, {Code: []api.Ins{{Kind: api.Const, A: 3, B: 7}}}, {Code: []api.Ins{{Kind: api.Abort}}}}
	e := wantEngine(t, api.Config{Bounds: []int{50}, Window: 3, Credits: 1, Workers: 3}, log)
	wantPicks(t, e, false, [3]int{1, api.Admit}, [3]int{1, api.Read}, [3]int{1, api.Work})
	wantPicks(t, e, true, times(3, api.Admit)...)
	wantPicks(t, e, true, times(3, api.Read)...)
	wantPicks(t, e, true, times(1, api.Work)...)
	wantResult(t, e, 0, done())
	wantResult(t, e, 1, done(0, 0, 0, 7))
	wantResult(t, e, 2, api.Result{Done: true, Aborted: true})
}

func wantNothingToPick(t *testing.T, e *orderly.Engine) {
	t.Helper()
	want := seen(e)
	for _, partition := range numbers {
		for _, kind := range numbers {
			for _, other := range numbers {
				wantPicks(t, e, false, [3]int{partition, kind, other})
			}
		}
	}
	if got := seen(e); !reflect.DeepEqual(got, want) {
		t.Errorf("P4: picks that can't be done changed the answers: %v, not %v", got, want)
	}
}

// With one partition, there is no other one to send to or to take from.
func TestP4NoOtherPartition(t *testing.T) {
	e := wantEngine(t, single(2, 1), []api.Txn{adding(5), adding(6)})
	wantPicks(t, e, true, [3]int{0, api.Admit}, [3]int{0, api.Admit}, [3]int{0, api.Read})
	want := seen(e)
	for _, other := range numbers {
		wantPicks(t, e, false, [3]int{0, api.Send, other}, [3]int{0, api.Take, other})
	}
	if got := seen(e); !reflect.DeepEqual(got, want) {
		t.Errorf("P4: picks that can't be done changed the answers: %v, not %v", got, want)
	}
}

// What other is does not matter for Admit, Read and Work.
func TestP4AnyOther(t *testing.T) {
	for _, other := range numbers {
		e := wantEngine(t, single(1, 1), []api.Txn{adding(5)})
		wantPicks(t, e, true, [3]int{0, api.Admit, other}, [3]int{0, api.Read, other}, [3]int{0, api.Work, other})
		wantResult(t, e, 0, done(1, 1))
	}
}
