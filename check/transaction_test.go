package check

import (
	"math"
	"slices"
	"testing"

	"orderly/api"
)

func TestP3Keys(t *testing.T) {
	for _, x := range []struct {
		keys []int
		want bool
	}{
		{nil, true}, {[]int{0, 99}, true}, {[]int{5, 5, 4, 3, 2, 5}, true},
		{[]int{100}, false}, {[]int{-1}, false}, {[]int{1, 2, 3, 4, 5, 100}, false}, {[]int{math.MinInt}, false}, {[]int{0, math.MaxInt}, false},
		{[]int{1, 2, 3, 4, 5, 6, 7}, false}, {make([]int, 1000), false},
	} {
		if got := transaction(api.Txn{Reads: x.keys}); got != x.want {
			t.Errorf("P3: Reads %v: %v", x.keys, got)
		}
		if got := transaction(api.Txn{Writes: x.keys}); got != x.want {
			t.Errorf("P3: Writes %v: %v", x.keys, got)
		}
	}
}

func TestP3Ranges(t *testing.T) {
	for _, x := range []struct {
		ranges []api.Range
		want   bool
	}{
		{nil, true}, {[]api.Range{{Lo: 0, Hi: 99}}, true}, {[]api.Range{{Lo: 9, Hi: 9}, {Lo: 8, Hi: 10}, {Lo: 8, Hi: 10}}, true}, {[]api.Range{{Lo: 99, Hi: 99}}, true},
		{[]api.Range{{Lo: 9, Hi: 8}}, false}, {[]api.Range{{Lo: -1, Hi: 0}}, false}, {[]api.Range{{Lo: 0, Hi: 100}}, false}, {[]api.Range{{Lo: 100, Hi: 100}}, false}, {[]api.Range{{Lo: -2, Hi: -1}}, false},
		{[]api.Range{{}, {}, {Lo: 1}}, false}, {[]api.Range{{Lo: math.MinInt, Hi: math.MaxInt}}, false}, {make([]api.Range, 4), false}, {make([]api.Range, 1000), false},
	} {
		if got := transaction(api.Txn{Ranges: x.ranges}); got != x.want {
			t.Errorf("P3: Ranges %v: %v", x.ranges, got)
		}
	}
}

func TestP3CodeLength(t *testing.T) {
	for _, n := range []int{0, 1, 15, 16, 17, 1000} {
		code := slices.Repeat([]api.Ins{{Kind: api.Abort}}, n)
		if got := transaction(api.Txn{Code: code}); got != (n <= 16) {
			t.Errorf("P3: %d instructions: %v", n, got)
		}
	}
}

// Each instruction is held against what its operands may be, at every mix of the probes.
func TestP3Instructions(t *testing.T) {
	probes := []int{math.MinInt, -1, 0, 1, 2, 3, 4, 7, 8, 9, 99, 100, math.MaxInt}
	register, gettable, puttable, ranged, target := []int{0, 1, 2, 3}, []int{7, 8}, []int{8}, []int{0, 1}, []int{2, 3}
	may := map[int][3][]int{
		1: {register, probes, probes}, 2: {register, gettable, probes}, 3: {puttable, register, probes}, 4: {puttable, probes, probes},
		5: {register, ranged, probes}, 6: {register, ranged, probes}, 7: {register, register, register}, 8: {register, register, register},
		9: {register, register, target}, 10: {probes, probes, probes},
	}
	txn := api.Txn{Reads: []int{7}, Writes: []int{8}, Ranges: []api.Range{{Lo: 9, Hi: 9}, {Lo: 99, Hi: 99}}, Code: []api.Ins{{Kind: api.Abort}, {}, {Kind: api.Abort}}}
	for _, kind := range []int{math.MinInt, -1, 0, 1, 2, 3, 4, 5, 6, 7, 8, 9, 10, 11, math.MaxInt} {
		for _, a := range probes {
			for _, b := range probes {
				for _, c := range probes {
					m := may[kind]
					want := slices.Contains(m[0], a) && slices.Contains(m[1], b) && slices.Contains(m[2], c)
					txn.Code[1] = api.Ins{Kind: kind, A: a, B: b, C: c}
					if got := transaction(txn); got != want {
						t.Fatalf("P3: %+v: %v", txn.Code[1], got)
					}
				}
			}
		}
	}
}

func TestP3LastInstruction(t *testing.T) {
	code := slices.Repeat([]api.Ins{{Kind: api.Jump, C: 16}}, 16)
	if !transaction(api.Txn{Code: code}) {
		t.Error("P3: jumps to the end are refused")
	}
	code[15].C = 15
	if transaction(api.Txn{Code: code}) {
		t.Error("P3: a jump of the last instruction to itself is taken")
	}
	code[15].C = 17
	if transaction(api.Txn{Code: code}) {
		t.Error("P3: a jump behind the end is taken")
	}
	if transaction(api.Txn{Code: []api.Ins{{Kind: api.Sum}}}) {
		t.Error("P3: a sum without any range is taken")
	}
}
