// Package code works transactions out.
package code

import "orderly/api"

// End is what a transaction comes to.
type End struct {
	Aborted   bool
	Registers [4]int
	Changes   []Change // in the order in which they were made; none if it aborted
}

// Change is a key that has a value from now on, or has none.
type Change struct {
	Key, Value int
	Deleted    bool
}

// machine is a transaction under way. Its values are those that the transaction sees: its own changes are among them.
type machine struct {
	End
	txn    api.Txn
	values map[int]int
	next   int
}

// Run works out a transaction that New has taken, by the values of the keys that it touches.
// It reads what it is given and writes into none of it, so that several can run at once.
func Run(t api.Txn, values []api.Pair) End {
	m := &machine{txn: t, values: map[int]int{}}
	for _, p := range values {
		m.values[p.Key] = p.Value
	}
	for m.next < len(t.Code) {
		i := t.Code[m.next]
		// Ahead of the step: a jump sets it anew.
		m.next++
		steps[i.Kind](m, i)
	}
	return m.End
}

func (m *machine) put(key, value int) {
	m.values[key] = value
	m.Changes = append(m.Changes, Change{Key: key, Value: value})
}

func (m *machine) remove(key int) {
	delete(m.values, key)
	m.Changes = append(m.Changes, Change{Key: key, Deleted: true})
}

// total is the sum of the values in a range, and how many there are.
func (m *machine) total(number int) (sum, count int) {
	r := m.txn.Ranges[number]
	for key := r.Lo; key <= r.Hi; key++ {
		if value, ok := m.values[key]; ok {
			sum += value
			count++
		}
	}
	return sum, count
}

func (m *machine) abort() {
	m.Aborted = true
	m.Changes = nil
	m.next = len(m.txn.Code)
}
