package code

import (
	"math"
	"reflect"
	"slices"
	"testing"

	"orderly/api"
)

func ins(kind int, operands ...int) api.Ins {
	o := append(operands, 0, 0, 0)
	return api.Ins{Kind: kind, A: o[0], B: o[1], C: o[2]}
}

// over is a transaction that may get, put and delete the keys 5 and 7, get 6, and sum the ranges 0 (4 to 9) and 1 (7 alone).
func over(code ...api.Ins) api.Txn {
	return api.Txn{Reads: []int{6}, Writes: []int{5, 7}, Ranges: []api.Range{{Lo: 4, Hi: 9}, {Lo: 7, Hi: 7}}, Code: code}
}

func registers(r ...int) End {
	var e End
	copy(e.Registers[:], r)
	return e
}

func (e End) with(changes ...Change) End {
	e.Changes = changes
	return e
}

func (e End) aborted() End {
	e.Aborted = true
	return e
}

func wantEnds(t *testing.T, cases []caseOf) {
	t.Helper()
	for _, x := range cases {
		if got := Run(over(x.code...), x.values); !reflect.DeepEqual(got, x.want) {
			t.Errorf("P4: %s: %+v, not %+v", x.what, got, x.want)
		}
	}
}

type caseOf struct {
	what   string
	values []api.Pair
	code   []api.Ins
	want   End
}

func TestP4InstructionsOfEveryKind(t *testing.T) {
	some := []api.Pair{{Key: 4, Value: 1000}, {Key: 6, Value: -3}, {Key: 9, Value: 20}}
	wantEnds(t, []caseOf{
		{"nothing", some, nil, registers()},
		{"Const", nil, []api.Ins{ins(api.Const, 0, 5), ins(api.Const, 1, -6), ins(api.Const, 3, math.MinInt), ins(api.Const, 1, 7)}, registers(5, 7, 0, math.MinInt)},
		{"Get", some, []api.Ins{ins(api.Get, 2, 6), ins(api.Const, 0, 1), ins(api.Get, 0, 5)}, registers(0, 0, -3)},
		{"Put", some, []api.Ins{ins(api.Put, 5, 0), ins(api.Const, 3, 8), ins(api.Put, 7, 3)}, registers(0, 0, 0, 8).with(Change{Key: 5}, Change{Key: 7, Value: 8})},
		{"Delete", some, []api.Ins{ins(api.Delete, 7)}, registers().with(Change{Key: 7, Deleted: true})},
		{"Sum", some, []api.Ins{ins(api.Sum, 1, 0), ins(api.Const, 0, 4), ins(api.Sum, 0, 1)}, registers(0, 1017)},
		{"Count", some, []api.Ins{ins(api.Count, 1, 0), ins(api.Const, 0, 4), ins(api.Count, 0, 1)}, registers(0, 3)},
		{"Add", nil, []api.Ins{ins(api.Const, 1, 30), ins(api.Const, 2, 4), ins(api.Add, 0, 1, 2), ins(api.Add, 1, 1, 1)}, registers(34, 60, 4)},
		{"Sub", nil, []api.Ins{ins(api.Const, 1, 30), ins(api.Const, 2, 4), ins(api.Sub, 0, 1, 2), ins(api.Sub, 1, 2, 1), ins(api.Sub, 2, 2, 2)}, registers(26, -26, 0)},
		{"Abort", some, []api.Ins{ins(api.Const, 1, 30), ins(api.Abort), ins(api.Const, 1, 31)}, registers(0, 30).aborted()},
	})
}

func TestP4Jumps(t *testing.T) {
	less := []api.Ins{ins(api.Const, 0, -1), ins(api.Jump, 0, 1, 4), ins(api.Const, 2, 2), ins(api.Const, 2, 3), ins(api.Const, 3, 4)}
	wantEnds(t, []caseOf{
		{"less", nil, less, registers(-1, 0, 0, 4)},
		{"equal registers", nil, []api.Ins{ins(api.Jump, 0, 1, 2), ins(api.Const, 0, 4)}, registers(4)},
		{"the same register", nil, []api.Ins{ins(api.Jump, 2, 2, 2), ins(api.Const, 0, 4)}, registers(4)},
		{"more", nil, []api.Ins{ins(api.Const, 0, 1), ins(api.Jump, 0, 1, 3), ins(api.Const, 3, 4)}, registers(1, 0, 0, 4)},
		{"to the next one", nil, []api.Ins{ins(api.Const, 0, -1), ins(api.Jump, 0, 1, 2), ins(api.Const, 3, 4)}, registers(-1, 0, 0, 4)},
		{"to the end", nil, []api.Ins{ins(api.Const, 0, -1), ins(api.Jump, 0, 1, 4), ins(api.Const, 3, 4), ins(api.Abort)}, registers(-1)},
		{"the least and the greatest int", nil, []api.Ins{ins(api.Const, 0, math.MinInt), ins(api.Const, 1, math.MaxInt), ins(api.Jump, 0, 1, 4), ins(api.Abort), ins(api.Jump, 1, 0, 6), ins(api.Const, 3, 4)}, registers(math.MinInt, math.MaxInt, 0, 4)},
		{"over another jump", nil, []api.Ins{ins(api.Const, 1, 1), ins(api.Jump, 0, 1, 3), ins(api.Jump, 0, 1, 5), ins(api.Const, 2, 7), ins(api.Jump, 1, 2, 6), ins(api.Abort), ins(api.Const, 3, 9)}, registers(0, 1, 7, 9)},
	})
}

func TestP4IntsWrapRound(t *testing.T) {
	most := []api.Pair{{Key: 4, Value: math.MaxInt}, {Key: 7, Value: 1}, {Key: 9, Value: math.MaxInt}}
	wantEnds(t, []caseOf{
		{"Add", nil, []api.Ins{ins(api.Const, 0, math.MaxInt), ins(api.Const, 1, 1), ins(api.Add, 2, 0, 1)}, registers(math.MaxInt, 1, math.MinInt)},
		{"Sub", nil, []api.Ins{ins(api.Const, 0, math.MinInt), ins(api.Const, 1, 1), ins(api.Sub, 2, 0, 1), ins(api.Sub, 3, 3, 0)}, registers(math.MinInt, 1, math.MaxInt, math.MinInt)},
		{"Sum", most, []api.Ins{ins(api.Sum, 0, 0), ins(api.Sum, 1, 1)}, registers(-1, 1)},
	})
}

func TestP4SeesItsOwnChanges(t *testing.T) {
	start := []api.Pair{{Key: 5, Value: 50}, {Key: 6, Value: 60}, {Key: 7, Value: 70}}
	look := []api.Ins{ins(api.Get, 0, 5), ins(api.Get, 1, 7), ins(api.Sum, 2, 0), ins(api.Count, 3, 0)}
	after := func(code ...api.Ins) []api.Ins { return append(code, look...) }
	gone, nothing := Change{Key: 5, Deleted: true}, Change{Key: 5}
	wantEnds(t, []caseOf{
		{"nothing of its own", start, look, registers(50, 70, 180, 3)},
		{"put over a value", start, after(ins(api.Const, 0, 1), ins(api.Put, 5, 0)), registers(1, 70, 131, 3).with(Change{Key: 5, Value: 1})},
		{"put where there was none", nil, after(ins(api.Const, 0, 1), ins(api.Put, 7, 0)), registers(0, 1, 1, 1).with(Change{Key: 7, Value: 1})},
		{"put 0 is a value", nil, after(ins(api.Put, 5, 3)), registers(0, 0, 0, 1).with(nothing)},
		{"deleted", start, after(ins(api.Delete, 5)), registers(0, 70, 130, 2).with(gone)},
		{"deleted where there was none", nil, after(ins(api.Delete, 5)), registers().with(gone)},
		{"put and deleted", start, after(ins(api.Put, 5, 0), ins(api.Delete, 5)), registers(0, 70, 130, 2).with(nothing, gone)},
		{"deleted and put", start, after(ins(api.Delete, 5), ins(api.Put, 5, 0)), registers(0, 70, 130, 3).with(gone, nothing)},
	})
}

func TestP4NothingCountsBehindAnAbort(t *testing.T) {
	start := []api.Pair{{Key: 5, Value: 50}, {Key: 7, Value: 70}}
	wantEnds(t, []caseOf{
		{"a Put and a Delete ahead", start, []api.Ins{ins(api.Const, 0, 1), ins(api.Put, 5, 0), ins(api.Delete, 7), ins(api.Sum, 2, 0), ins(api.Abort)}, registers(1, 0, 1).aborted()},
		{"a Put and a Delete behind", start, []api.Ins{ins(api.Abort), ins(api.Put, 5, 0), ins(api.Delete, 7)}, registers().aborted()},
		{"at the end", start, []api.Ins{ins(api.Const, 3, 1), ins(api.Abort)}, registers(0, 0, 0, 1).aborted()},
		{"jumped over", start, []api.Ins{ins(api.Const, 3, 1), ins(api.Jump, 0, 3, 3), ins(api.Abort), ins(api.Put, 5, 3)}, registers(0, 0, 0, 1).with(Change{Key: 5, Value: 1})},
	})
}

func TestP2RunWritesIntoNothing(t *testing.T) {
	txn := over(ins(api.Const, 0, 1), ins(api.Put, 5, 0), ins(api.Delete, 7), ins(api.Sum, 1, 0))
	values := append([]api.Pair{{Key: 5, Value: 50}, {Key: 7, Value: 70}}, make([]api.Pair, 8)...)[:2]
	want := slices.Clone(values[:cap(values)])
	Run(txn, values)
	if !slices.Equal(values[:cap(values)], want) {
		t.Errorf("P2: the values are %v, not %v", values[:cap(values)], want)
	}
	if again := over(ins(api.Const, 0, 1), ins(api.Put, 5, 0), ins(api.Delete, 7), ins(api.Sum, 1, 0)); !reflect.DeepEqual(txn, again) {
		t.Errorf("P2: the transaction is %+v, not %+v", txn, again)
	}
}
