package orderly_test

import (
	"math"
	"slices"
	"testing"

	"orderly/api"
	"orderly/orderly"
)

func wantTable(t *testing.T, e *orderly.Engine, partition int, want ...api.Pair) {
	t.Helper()
	if got, f := e.Table(partition); f != api.OK || !slices.Equal(got, want) {
		t.Errorf("P5: Table(%d) = %v, %d, not %v", partition, got, f, want)
	}
}

func wantNext(t *testing.T, e *orderly.Engine, partition, next int) {
	t.Helper()
	if got, f := e.Look(partition); f != api.OK || got != (api.Look{Next: next}) {
		t.Errorf("P5: Look(%d) = %+v, %d, not Next %d alone", partition, got, f, next)
	}
}

func example() []api.Txn {
	return []api.Txn{
		{Reads: []int{10}, Writes: []int{60}, Code: []api.Ins{{Kind: api.Get, A: 0, B: 10}, {Kind: api.Get, A: 1, B: 60}, {Kind: api.Add, A: 2, B: 0, C: 1}, {Kind: api.Put, A: 60, B: 2}}},
		{Writes: []int{60}, Reads: []int{99}, Code: []api.Ins{{Kind: api.Get, A: 0, B: 60}, {Kind: api.Put, A: 60, B: 0}}},
	}
}

func TestP5Example1(t *testing.T) {
	e := wantEngine(t, plain(), example(), api.Pair{Key: 10, Value: 5}, api.Pair{Key: 60, Value: 7})
	wantTable(t, e, 0, api.Pair{Key: 10, Value: 5})
	wantTable(t, e, 1, api.Pair{Key: 60, Value: 7})
	wantNext(t, e, 0, 0)
	wantNext(t, e, 1, 0)
	for txn := range 2 {
		if r, f := e.Result(txn); r != (api.Result{}) || f != api.OK {
			t.Errorf("P5: Result(%d) = %+v, %d", txn, r, f)
		}
	}
	for _, x := range [][2]int{{0, 1}, {1, 0}} {
		if n, f := e.Mail(x[0], x[1]); n != 0 || f != api.OK {
			t.Errorf("P5: Mail(%d, %d) = %d, %d", x[0], x[1], n, f)
		}
	}
}

// A key lies in the partition whose number is how many Bounds are not above it.
func TestP3ValuesLieInTheirPartitions(t *testing.T) {
	start := []api.Pair{{Key: 0, Value: math.MinInt}, {Key: 1, Value: 11}, {Key: 49, Value: 0}, {Key: 50, Value: -3}, {Key: 98, Value: 4}, {Key: 99, Value: math.MaxInt}}
	for _, x := range []struct {
		bounds []int
		ends   []int // how many of start lie in a partition or in one before it
	}{
		{nil, []int{6}}, {[]int{1}, []int{1, 6}}, {[]int{50}, []int{3, 6}}, {[]int{49, 51}, []int{2, 4, 6}}, {[]int{2, 3, 99}, []int{2, 2, 5, 6}}, {[]int{1, 50, 98}, []int{1, 3, 4, 6}},
	} {
		c := plain()
		c.Bounds = x.bounds
		e := wantEngine(t, c, nil, start...)
		from := 0
		for partition, end := range x.ends {
			wantTable(t, e, partition, start[from:end]...)
			wantNext(t, e, partition, 0)
			from = end
		}
		if _, f := e.Table(len(x.ends)); f != api.ErrPartition {
			t.Errorf("P5: Bounds %v: Table(%d): %d", x.bounds, len(x.ends), f)
		}
	}
}

func TestP5TableOfMany(t *testing.T) {
	e := wantEngine(t, api.Config{Bounds: []int{13, 26}, Window: 1, Credits: 1, Workers: 1}, nil, starting(40)...)
	wantTable(t, e, 0, starting(40)[:13]...)
	wantTable(t, e, 1, starting(40)[13:26]...)
	wantTable(t, e, 2, starting(40)[26:]...)
	wantTable(t, wantEngine(t, plain(), nil), 1)
}

// Next is the first transaction that takes part, by what it touches, and not by its code.
func TestP5Next(t *testing.T) {
	c := api.Config{Bounds: []int{25, 50, 75}, Window: 1, Credits: 1, Workers: 1}
	for _, x := range []struct {
		what string
		txn  api.Txn
		in   [4]bool
	}{
		{"nothing", api.Txn{}, [4]bool{true}},
		{"code alone", api.Txn{Code: []api.Ins{{Kind: api.Const, B: 60}}}, [4]bool{true}},
		{"reads below and at a bound", api.Txn{Reads: []int{74, 50}}, [4]bool{2: true}},
		{"reads at the ends", api.Txn{Reads: []int{99, 0}}, [4]bool{0: true, 3: true}},
		{"writes", api.Txn{Writes: []int{25, 49, 75}}, [4]bool{1: true, 3: true}},
		{"reads and writes", api.Txn{Reads: []int{60}, Writes: []int{30}}, [4]bool{1: true, 2: true}},
		{"a range within one", api.Txn{Ranges: []api.Range{{Lo: 25, Hi: 49}}}, [4]bool{1: true}},
		{"a range over the edges", api.Txn{Ranges: []api.Range{{Lo: 24, Hi: 50}}}, [4]bool{0: true, 1: true, 2: true}},
		{"a range over all", api.Txn{Ranges: []api.Range{{Lo: 0, Hi: 99}}}, [4]bool{true, true, true, true}},
		{"one key as a range, and another", api.Txn{Ranges: []api.Range{{Lo: 50, Hi: 50}, {Lo: 99, Hi: 99}}}, [4]bool{2: true, 3: true}},
		{"all three", api.Txn{Reads: []int{1}, Writes: []int{26}, Ranges: []api.Range{{Lo: 80, Hi: 81}}}, [4]bool{0: true, 1: true, 3: true}},
	} {
		all := api.Txn{Ranges: []api.Range{{Lo: 0, Hi: 99}}}
		t.Run(x.what, func(t *testing.T) {
			alone := wantEngine(t, c, []api.Txn{x.txn})
			followed := wantEngine(t, c, []api.Txn{x.txn, all, x.txn})
			for partition, in := range x.in {
				if in {
					wantNext(t, alone, partition, 0)
					wantNext(t, followed, partition, 0)
				} else {
					wantNext(t, alone, partition, 1)
					wantNext(t, followed, partition, 1)
				}
			}
		})
	}
}

func TestP5NextFarOff(t *testing.T) {
	log := txns(24)
	log[23].Reads = []int{50}
	e := wantEngine(t, plain(), log)
	wantNext(t, e, 0, 0)
	wantNext(t, e, 1, 23)
	wantNext(t, wantEngine(t, plain(), log[:23]), 1, 23)
}

func TestP5Errors(t *testing.T) {
	for count := 1; count <= 4; count++ {
		c := plain()
		c.Bounds = []int{20, 40, 60}[:count-1]
		e := wantEngine(t, c, txns(count), starting(40)...)
		for _, n := range []int{math.MinInt, -1, count, count + 1, math.MaxInt} {
			if r, f := e.Result(n); r != (api.Result{}) || f != api.ErrTxn {
				t.Errorf("P5: Result(%d) = %+v, %d", n, r, f)
			}
			if l, f := e.Table(n); l != nil || f != api.ErrPartition {
				t.Errorf("P5: Table(%d) = %v, %d", n, l, f)
			}
			if l, f := e.Look(n); l != (api.Look{}) || f != api.ErrPartition {
				t.Errorf("P5: Look(%d) = %+v, %d", n, l, f)
			}
		}
		for from := -1; from <= count; from++ {
			for to := -1; to <= count; to++ {
				want := api.OK
				if from < 0 || from == count || to < 0 || to == count || from == to {
					want = api.ErrPartition
				}
				if n, f := e.Mail(from, to); n != 0 || f != want {
					t.Errorf("P5: Mail(%d, %d) = %d, %d, not 0, %d", from, to, n, f, want)
				}
			}
		}
	}
	if _, f := wantEngine(t, plain(), nil).Result(0); f != api.ErrTxn {
		t.Errorf("P5: Result(0) of no transaction: %d", f)
	}
}
