package orderly

import (
	"testing"

	"orderly/api"
)

// When all are done, nothing that was let in, sent or taken is kept any more.
func TestNothingIsKeptOfWhatIsDone(t *testing.T) {
	all := api.Txn{Ranges: []api.Range{{Lo: 0, Hi: 99}}, Writes: []int{5, 60}, Code: []api.Ins{{Kind: api.Sum}, {Kind: api.Put, A: 5}}}
	log := []api.Txn{all, {Reads: []int{5, 99}}, all, {Reads: []int{60}}}
	e, _, _ := New(api.Config{Bounds: []int{30, 60, 90}, Window: 3, Credits: 2, Workers: 2}, log, api.Pair{Key: 5, Value: 1}, api.Pair{Key: 95, Value: 2})
	for range len(log) * (2 + 6) {
		for i := range 4 * 6 * 4 {
			e.Pick(i/24, i/4%6, i%4)
		}
	}
	for i := range log {
		if r, _ := e.Result(i); !r.Done {
			t.Fatalf("Result(%d) = %+v", i, r)
		}
	}
	for i, p := range e.partitions {
		if len(p.open) > 0 || len(p.taken) > 0 {
			t.Errorf("partition %d keeps %v and %v", i, p.open, p.taken)
		}
		for from, mail := range p.mails {
			if len(mail) > 0 {
				t.Errorf("the mail from %d to %d keeps %v", from, i, mail)
			}
		}
	}
}
