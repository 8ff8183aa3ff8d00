package orderly_test

import (
	"reflect"
	"testing"

	"orderly/api"
	"orderly/orderly"
)

func wantMail(t *testing.T, e *orderly.Engine, from, to, want int) {
	t.Helper()
	if got, f := e.Mail(from, to); got != want || f != api.OK {
		t.Errorf("P5: Mail(%d, %d) = %d, %d, not %d", from, to, got, f, want)
	}
}

// wantRefused holds that picks can't be done, and change nothing.
func wantRefused(t *testing.T, e *orderly.Engine, picks ...[3]int) {
	t.Helper()
	want := seen(e)
	wantPicks(t, e, false, picks...)
	if got := seen(e); !reflect.DeepEqual(got, want) {
		t.Errorf("P4: %v can't be done, and changed the answers: %v, not %v", picks, got, want)
	}
}

func repeated(count int, txn api.Txn) []api.Txn {
	list := make([]api.Txn, count)
	for i := range list {
		list[i] = txn
	}
	return list
}

func parted(credits, workers int, bounds ...int) api.Config {
	return api.Config{Bounds: bounds, Window: 8, Credits: credits, Workers: workers}
}

// Those that are done in the sender count as long as they are not taken.
func TestP4SendCredits(t *testing.T) {
	for credits := 1; credits <= 8; credits++ {
		e := wantEngine(t, parted(credits, 1, 50), repeated(10, reading(0, 60)))
		for n := range credits {
			wantMail(t, e, 0, 1, n)
			wantPicks(t, e, true, [3]int{0, api.Admit}, [3]int{0, api.Read}, [3]int{1, api.Admit}, [3]int{1, api.Read})
			wantPicks(t, e, true, [3]int{0, api.Send, 1}, [3]int{1, api.Send, 0}, [3]int{0, api.Take, 1}, [3]int{0, api.Work})
		}
		wantMail(t, e, 0, 1, credits)
		wantMail(t, e, 1, 0, 0)
		wantPicks(t, e, true, [3]int{0, api.Admit}, [3]int{0, api.Read})
		wantRefused(t, e, [3]int{0, api.Send, 1}, [3]int{0, api.Send, 1})
		wantPicks(t, e, true, [3]int{1, api.Take, 0})
		wantMail(t, e, 0, 1, credits-1)
		wantPicks(t, e, true, [3]int{0, api.Send, 1})
		wantMail(t, e, 0, 1, credits)
		wantPicks(t, e, true, [3]int{0, api.Admit}, [3]int{0, api.Read})
		wantRefused(t, e, [3]int{0, api.Send, 1})
		wantPicks(t, e, true, [3]int{1, api.Work})
		wantDone(t, e, 10, 0)
		wantRefused(t, e, [3]int{0, api.Send, 1})
	}
}

// A mail that is full hinders no other one, the one that goes back included.
func TestP4MailsStandAlone(t *testing.T) {
	e := wantEngine(t, parted(1, 1, 30, 60), repeated(3, reading(0, 30, 60)))
	for partition := range 3 {
		wantPicks(t, e, true, [3]int{partition, api.Admit}, [3]int{partition, api.Read}, [3]int{partition, api.Admit}, [3]int{partition, api.Read})
	}
	wantPicks(t, e, true, [3]int{0, api.Send, 1})
	wantRefused(t, e, [3]int{0, api.Send, 1}, [3]int{0, api.Take, 1}, [3]int{2, api.Take, 0}, [3]int{1, api.Take, 2})
	wantPicks(t, e, true, [3]int{1, api.Send, 0}, [3]int{0, api.Send, 2}, [3]int{2, api.Send, 1})
	for from, row := range [][]int{{0, 1, 1}, {1, 0, 0}, {0, 1, 0}} {
		for to, want := range row {
			if from != to {
				wantMail(t, e, from, to, want)
			}
		}
	}
	wantRefused(t, e, [3]int{0, api.Send, 1}, [3]int{1, api.Send, 0}, [3]int{0, api.Send, 2}, [3]int{2, api.Send, 1})
	wantPicks(t, e, true, [3]int{1, api.Take, 2}, [3]int{2, api.Send, 1})
	wantRefused(t, e, [3]int{0, api.Send, 1})
	wantMail(t, e, 0, 1, 1)
	wantMail(t, e, 2, 1, 1)
}

// crossing is a log of which 1 waits for 0 in partition 0 and 2 does not, and both take part in partition 1 as well.
func crossing(t *testing.T) *orderly.Engine {
	t.Helper()
	log := []api.Txn{adding(5), {Reads: []int{60}, Writes: []int{5}}, reading(7, 60)}
	e := wantEngine(t, parted(2, 4, 50), log)
	wantPicks(t, e, true, times(3, api.Admit)...)
	wantPicks(t, e, true, times(2, api.Read)...)
	wantPicks(t, e, false, times(1, api.Read)...)
	for range 2 {
		wantPicks(t, e, true, [3]int{1, api.Admit}, [3]int{1, api.Read}, [3]int{1, api.Send, 0}, [3]int{0, api.Take, 1})
	}
	return e
}

// The mail is taken in the order in which it was sent, and that is not always the log's.
func TestP4MailIsTakenInOrder(t *testing.T) {
	e := crossing(t)
	wantPicks(t, e, true, [3]int{0, api.Send, 1})
	wantRefused(t, e, [3]int{0, api.Send, 1})
	wantPicks(t, e, true, [3]int{0, api.Work}, [3]int{0, api.Read}, [3]int{0, api.Send, 1}, [3]int{0, api.Work})
	wantMail(t, e, 0, 1, 2)
	wantRefused(t, e, [3]int{1, api.Work})
	wantPicks(t, e, true, [3]int{1, api.Take, 0})
	wantMail(t, e, 0, 1, 1)
	wantPicks(t, e, true, [3]int{1, api.Work})
	wantDone(t, e, 3, 0, 2)
	wantRefused(t, e, [3]int{1, api.Work})
	wantPicks(t, e, true, [3]int{1, api.Take, 0}, [3]int{1, api.Work})
	wantDone(t, e, 3, 0, 1, 2)
	wantNothingToPick(t, e)
}

// Of those that can be sent the first one of the log is, even if another one has been read before.
func TestP4SendsTheFirstOne(t *testing.T) {
	e := crossing(t)
	wantPicks(t, e, true, [3]int{0, api.Work}, [3]int{0, api.Read})
	wantPicks(t, e, true, [3]int{0, api.Send, 1}, [3]int{1, api.Take, 0}, [3]int{1, api.Work}, [3]int{0, api.Work})
	wantDone(t, e, 3, 0, 1)
	wantPicks(t, e, true, [3]int{0, api.Send, 1}, [3]int{0, api.Work}, [3]int{1, api.Take, 0}, [3]int{1, api.Work})
	wantDone(t, e, 3, 0, 1, 2)
}

func TestP4NothingToSend(t *testing.T) {
	log := []api.Txn{reading(1), reading(2, 60), reading(3, 90)}
	e := wantEngine(t, parted(8, 1, 50, 80), log)
	send, take := [3]int{0, api.Send, 1}, [3]int{1, api.Take, 0}
	wantRefused(t, e, send, take)
	wantPicks(t, e, true, times(3, api.Admit)...)
	wantRefused(t, e, send, take)
	wantPicks(t, e, true, times(1, api.Read)...)
	wantRefused(t, e, send, [3]int{0, api.Send, 2})
	wantPicks(t, e, true, times(1, api.Read)...)
	wantRefused(t, e, [3]int{0, api.Send, 2}, [3]int{1, api.Send, 0}, take)
	wantPicks(t, e, true, send)
	wantRefused(t, e, send, [3]int{0, api.Take, 1}, [3]int{2, api.Take, 0}, [3]int{1, api.Take, 2})
	wantPicks(t, e, true, take)
	wantRefused(t, e, send, take)
	wantPicks(t, e, true, times(1, api.Read)...)
	wantRefused(t, e, send)
	wantPicks(t, e, true, [3]int{0, api.Send, 2})
	wantRefused(t, e, send, take, [3]int{0, api.Send, 2}, [3]int{1, api.Take, 2}, [3]int{0, api.Take, 2})
	wantMail(t, e, 0, 2, 1)
}

// There is something to send and to take, both ways, but to no such partition and not to the same one.
func TestP4NoSuchOther(t *testing.T) {
	e := wantEngine(t, parted(2, 1, 50), repeated(2, reading(0, 60)))
	for partition := range 2 {
		for range 2 {
			wantPicks(t, e, true, [3]int{partition, api.Admit}, [3]int{partition, api.Read})
		}
		wantPicks(t, e, true, [3]int{partition, api.Send, 1 - partition})
	}
	for partition := range 2 {
		for _, other := range numbers {
			if other != 1-partition {
				wantRefused(t, e, [3]int{partition, api.Send, other}, [3]int{partition, api.Take, other})
			}
		}
	}
	for _, partition := range numbers {
		if partition != 0 && partition != 1 {
			wantRefused(t, e, [3]int{partition, api.Send, 0}, [3]int{partition, api.Send, 1}, [3]int{partition, api.Take, 0}, [3]int{partition, api.Take, 1})
		}
	}
	wantPicks(t, e, true, [3]int{0, api.Send, 1}, [3]int{1, api.Take, 0}, [3]int{1, api.Send, 0}, [3]int{0, api.Take, 1})
}

// What is sent may have no values, and is sent and taken all the same.
func TestP4NothingKept(t *testing.T) {
	e := wantEngine(t, parted(1, 1, 50), []api.Txn{summing(40, 70)}, api.Pair{Key: 39, Value: 1}, api.Pair{Key: 41, Value: 4})
	for partition := range 2 {
		wantPicks(t, e, true, [3]int{partition, api.Admit}, [3]int{partition, api.Read})
	}
	wantPicks(t, e, true, [3]int{0, api.Send, 1})
	wantRefused(t, e, [3]int{0, api.Work}, [3]int{0, api.Take, 1})
	wantPicks(t, e, true, [3]int{1, api.Send, 0})
	wantMail(t, e, 1, 0, 1)
	wantRefused(t, e, [3]int{0, api.Work}, [3]int{1, api.Work})
	wantPicks(t, e, true, [3]int{0, api.Take, 1}, [3]int{1, api.Take, 0}, [3]int{0, api.Work}, [3]int{1, api.Work})
	wantResult(t, e, 0, done(4, 1))
}

// P9: however much is to be sent, no mail comes above Credits and no partition above Window.
func TestP9Limits(t *testing.T) {
	for limit := 1; limit <= 8; limit++ {
		c := api.Config{Bounds: []int{25, 50, 75}, Window: limit, Credits: limit, Workers: 1}
		e := wantEngine(t, c, repeated(24, api.Txn{Ranges: []api.Range{{Lo: 0, Hi: 99}}}))
		for n := range 24 {
			for _, x := range picks(4) {
				// Partition 3 takes nothing at first, so that all mails to it run full.
				if x[0] != 3 || x[1] != api.Take || n > 10 {
					e.Pick(x[0], x[1], x[2])
				}
				wantLimits(t, e, limit)
			}
		}
	}
}

func wantLimits(t *testing.T, e *orderly.Engine, limit int) {
	t.Helper()
	for from := range 4 {
		if l, _ := e.Look(from); l.Open > limit {
			t.Fatalf("P9: Look(%d) = %+v, but the Window is %d", from, l, limit)
		}
		for to := range 4 {
			if n, _ := e.Mail(from, to); n > limit {
				t.Fatalf("P9: Mail(%d, %d) = %d, but there are %d Credits", from, to, n, limit)
			}
		}
	}
}
