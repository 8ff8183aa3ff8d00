package orderly_test

import (
	"testing"

	"orderly/api"
	"orderly/orderly"
)

func exampleEngine(t *testing.T) *orderly.Engine {
	t.Helper()
	return wantEngine(t, plain(), example(), api.Pair{Key: 10, Value: 5}, api.Pair{Key: 60, Value: 7})
}

// example2 picks what the document's example 2 does.
func example2(t *testing.T, e *orderly.Engine) {
	t.Helper()
	wantPicks(t, e, true, [3]int{1, api.Admit}, [3]int{1, api.Admit})
	wantLook(t, e, 1, 2, 2, 1, 1)
	wantPicks(t, e, true, [3]int{1, api.Read})
	wantPicks(t, e, false, [3]int{1, api.Read}, [3]int{1, api.Work})
	wantPicks(t, e, true, [3]int{1, api.Send, 0})
	wantMail(t, e, 1, 0, 1)
}

func example3(t *testing.T, e *orderly.Engine) {
	t.Helper()
	wantPicks(t, e, true, [3]int{0, api.Admit}, [3]int{0, api.Read}, [3]int{0, api.Send, 1}, [3]int{0, api.Take, 1}, [3]int{0, api.Work})
	wantResult(t, e, 0, api.Result{})
	wantPicks(t, e, true, [3]int{1, api.Take, 0}, [3]int{1, api.Work})
	wantResult(t, e, 0, done(5, 7, 12, 0))
	wantTable(t, e, 1, api.Pair{Key: 60, Value: 12})
	wantLook(t, e, 1, 2, 1, 1, 0)
}

func TestP4Example2(t *testing.T) {
	e := exampleEngine(t)
	example2(t, e)
	wantLook(t, e, 1, 2, 2, 0, 1)
	wantLook(t, e, 0, 0, 0, 0, 0)
	wantMail(t, e, 0, 1, 0)
	wantDone(t, e, 2)
}

func TestP4Example3(t *testing.T) {
	e := exampleEngine(t)
	example2(t, e)
	example3(t, e)
	wantTable(t, e, 0, api.Pair{Key: 10, Value: 5})
	wantLook(t, e, 0, 2, 0, 0, 0)
	wantMail(t, e, 0, 1, 0)
	wantMail(t, e, 1, 0, 0)
	wantDone(t, e, 2, 0)
}

func TestP4Example4(t *testing.T) {
	e := exampleEngine(t)
	example2(t, e)
	example3(t, e)
	wantPicks(t, e, true, [3]int{1, api.Read}, [3]int{1, api.Work})
	wantResult(t, e, 1, done(12, 0, 0, 0))
	wantResult(t, e, 0, done(5, 7, 12, 0))
	wantTable(t, e, 1, api.Pair{Key: 60, Value: 12})
	wantNothingToPick(t, e)
}
