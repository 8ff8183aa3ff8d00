package orderly_test

import (
	"math"
	"reflect"
	"testing"

	"orderly/api"
	"orderly/orderly"
)

var numbers = []int{math.MinInt, math.MinInt + 1, -100, -1, 0, 1, 2, 3, 4, 5, 6, 24, 40, 99, 100, math.MaxInt - 1, math.MaxInt}

// stages are engines that have come ever farther in a log.
func stages(t *testing.T) []*orderly.Engine {
	t.Helper()
	var list []*orderly.Engine
	for steps := range 8 {
		e := wantEngine(t, plain(), append(example(), txns(3)...), starting(40)...)
		for range steps {
			for partition := range 2 {
				e.Pick(partition, api.Admit, 0)
				e.Pick(partition, api.Read, 0)
				if steps > 1 {
					e.Pick(partition, api.Send, 1-partition)
				}
				if steps > 2 {
					e.Pick(partition, api.Take, 1-partition)
				}
				if steps > 4 {
					e.Pick(partition, api.Work, 0)
				}
			}
		}
		list = append(list, e)
	}
	return list
}

func TestP1CallsAtAllNumbers(t *testing.T) {
	for _, bounds := range [][]int{nil, {50}, {20, 40, 60}} {
		c := plain()
		c.Bounds = bounds
		e := wantEngine(t, c, example(), starting(40)...)
		for _, e := range append(stages(t), e) {
			want := seen(e)
			for _, n := range numbers {
				e.Result(n)
				e.Table(n)
				e.Look(n)
				for _, m := range numbers {
					e.Mail(n, m)
				}
			}
			if got := seen(e); !reflect.DeepEqual(got, want) {
				t.Errorf("P1: asking changed the answers: %v, not %v", got, want)
			}
		}
	}
}

func TestP1WrongPicks(t *testing.T) {
	for _, e := range stages(t) {
		want := seen(e)
		for _, partition := range numbers {
			for _, kind := range numbers {
				for _, other := range numbers {
					if mayBe(partition, kind, other) {
						continue
					}
					if e.Pick(partition, kind, other) {
						t.Errorf("P1: Pick(%d, %d, %d) is true", partition, kind, other)
					}
				}
			}
		}
		if got := seen(e); !reflect.DeepEqual(got, want) {
			t.Errorf("P1: picks that can't be done changed the answers: %v, not %v", got, want)
		}
	}
}

// mayBe tells whether there is such a pick of two partitions.
func mayBe(partition, kind, other int) bool {
	there := partition == 0 || partition == 1
	switch kind {
	case api.Admit, api.Read, api.Work:
		return there
	case api.Send, api.Take:
		return there && other == 1-partition
	}
	return false
}

// A pick that is answered with false has changed nothing, at all numbers.
func TestP1PicksAtAllNumbers(t *testing.T) {
	for _, e := range stages(t) {
		for range 3 {
			for _, kind := range numbers {
				for _, partition := range numbers {
					for other := range 2 {
						want := seen(e)
						if e.Pick(partition, kind, other) {
							continue
						}
						if got := seen(e); !reflect.DeepEqual(got, want) {
							t.Errorf("P1: Pick(%d, %d, %d) is false, and changed %v into %v", partition, kind, other, want, got)
						}
					}
				}
			}
		}
	}
}

// newEnds holds that New answers in one of its shapes, and that an engine answers too.
func newEnds(t *testing.T, c api.Config, log []api.Txn, start ...api.Pair) {
	t.Helper()
	e, f, at := orderly.New(c, log, start...)
	if (e != nil) != (f == api.OK) || f < api.OK || f > api.ErrStart || at < 0 || (f == api.OK || f == api.ErrConfig) && at != 0 {
		t.Fatalf("P1: New(%+v, %+v, %v) = %v, %d, %d", c, log, start, e, f, at)
	}
	if e != nil {
		seen(e)
	}
}

func TestP1NewAtAllNumbers(t *testing.T) {
	for _, n := range numbers {
		newEnds(t, api.Config{Bounds: []int{n}, Window: 1, Credits: 1, Workers: 1}, nil)
		newEnds(t, plain(), nil, api.Pair{Key: n, Value: n})
		newEnds(t, plain(), []api.Txn{{Reads: []int{n}}, {Writes: []int{n}}})
		for _, m := range numbers {
			newEnds(t, api.Config{Bounds: []int{n, m}, Window: 1, Credits: 1, Workers: 1}, nil)
			newEnds(t, plain(), nil, api.Pair{Key: n}, api.Pair{Key: m})
			newEnds(t, plain(), []api.Txn{{Ranges: []api.Range{{Lo: n, Hi: m}}}})
			newEnds(t, api.Config{Window: n, Credits: m, Workers: 1}, nil)
			newEnds(t, api.Config{Window: 1, Credits: n, Workers: m}, nil)
			for _, k := range numbers {
				for kind := -1; kind <= 11; kind++ {
					newEnds(t, plain(), []api.Txn{{Reads: []int{1}, Writes: []int{2}, Code: []api.Ins{{Kind: kind, A: n, B: m, C: k}}}})
				}
			}
		}
	}
}

func TestP1NewAtLongLists(t *testing.T) {
	for _, n := range []int{0, 1, 3, 4, 6, 7, 16, 17, 24, 25, 40, 41, 100000} {
		newEnds(t, api.Config{Bounds: make([]int, n), Window: 1, Credits: 1, Workers: 1}, nil)
		newEnds(t, plain(), txns(n))
		newEnds(t, plain(), nil, make([]api.Pair, n)...)
		newEnds(t, plain(), []api.Txn{{Reads: make([]int, n)}, {Writes: make([]int, n)}, {Ranges: make([]api.Range, n)}, {Code: make([]api.Ins, n)}})
	}
}
