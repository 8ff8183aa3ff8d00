package orderly_test

import (
	"slices"
	"testing"

	"orderly/api"
	"orderly/orderly"
)

func plain() api.Config { return api.Config{Bounds: []int{50}, Window: 2, Credits: 1, Workers: 1} }

func txns(n int) []api.Txn { return make([]api.Txn, n) }

// starting is n pairs with the keys from 0 on.
func starting(n int) []api.Pair {
	var list []api.Pair
	for k := range n {
		list = append(list, api.Pair{Key: k, Value: 1000 + k})
	}
	return list
}

func wantError(t *testing.T, c api.Config, log []api.Txn, start []api.Pair, errno api.Errno, at int) {
	t.Helper()
	e, f, place := orderly.New(c, log, start...)
	if e != nil || f != errno || place != at {
		t.Errorf("P3: New(%+v, %d transactions, %d pairs) = %v, %d, %d, not nil, %d, %d", c, len(log), len(start), e, f, place, errno, at)
	}
}

func wantEngine(t *testing.T, c api.Config, log []api.Txn, start ...api.Pair) *orderly.Engine {
	t.Helper()
	e, f, place := orderly.New(c, log, start...)
	if e == nil || f != api.OK || place != 0 {
		t.Fatalf("P3: New(%+v, %d transactions, %d pairs) = %v, %d, %d", c, len(log), len(start), e, f, place)
	}
	return e
}

func TestP3AtTheLimits(t *testing.T) {
	wantEngine(t, plain(), nil)
	wantEngine(t, api.Config{Window: 1, Credits: 1, Workers: 1}, txns(24), starting(40)...)
	wantEngine(t, api.Config{Bounds: []int{1, 2, 99}, Window: 8, Credits: 8, Workers: 4}, txns(24), starting(40)...)
}

func TestP3PastTheLimits(t *testing.T) {
	for _, c := range []api.Config{
		{Window: 9, Credits: 1, Workers: 1}, {Window: 1, Credits: 9, Workers: 1}, {Window: 1, Credits: 1, Workers: 5}, {Bounds: []int{1, 2, 3, 4}, Window: 1, Credits: 1, Workers: 1}, {Bounds: []int{100}, Window: 1, Credits: 1, Workers: 1},
		{Credits: 1, Workers: 1}, {Window: 1, Workers: 1}, {Window: 1, Credits: 1},
	} {
		wantError(t, c, nil, nil, api.ErrConfig, 0)
	}
	wantError(t, plain(), txns(25), nil, api.ErrLog, 24)
	wantError(t, plain(), nil, starting(41), api.ErrStart, 40)
}

func TestP3Example5(t *testing.T) {
	for _, bounds := range [][]int{{50, 50}, {0}, {10, 20, 30, 40}} {
		c := plain()
		c.Bounds = bounds
		wantError(t, c, nil, nil, api.ErrConfig, 0)
	}
	c := plain()
	c.Window = 0
	wantError(t, c, nil, nil, api.ErrConfig, 0)
	for _, x := range []api.Txn{
		{Reads: []int{7}, Code: []api.Ins{{Kind: api.Put, A: 7}}},
		{Code: []api.Ins{{Kind: api.Jump}}},
		{Ranges: []api.Range{{Lo: 9, Hi: 8}}},
	} {
		wantError(t, plain(), []api.Txn{x}, nil, api.ErrLog, 0)
		wantError(t, plain(), []api.Txn{{}, {}, x, x}, nil, api.ErrLog, 2)
	}
	wantError(t, plain(), nil, []api.Pair{{Key: 3, Value: 1}, {Key: 3, Value: 2}}, api.ErrStart, 1)
}

// Where several errors apply, the first one named is the answer, and its place.
func TestP1FirstErrorOfNew(t *testing.T) {
	wrong := []api.Txn{{Writes: []int{5}}, {Writes: []int{100}}, {Writes: []int{-1}}}
	wrongAndLong := append(slices.Clone(wrong), txns(22)...)
	unsorted := []api.Pair{{Key: 5}, {Key: 6}, {Key: 6}, {Key: 100}}
	unsortedAndLong := append(slices.Clone(unsorted), starting(37)...)
	wantError(t, api.Config{}, wrongAndLong, unsortedAndLong, api.ErrConfig, 0)
	wantError(t, api.Config{}, wrong, unsorted, api.ErrConfig, 0)
	wantError(t, api.Config{}, nil, unsorted, api.ErrConfig, 0)
	wantError(t, plain(), wrongAndLong, unsortedAndLong, api.ErrLog, 24)
	wantError(t, plain(), wrong, unsortedAndLong, api.ErrLog, 1)
	wantError(t, plain(), nil, unsortedAndLong, api.ErrStart, 40)
	wantError(t, plain(), nil, unsorted, api.ErrStart, 2)
}
