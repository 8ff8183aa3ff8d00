package orderly_test

import (
	"maps"
	"slices"
	"testing"

	"orderly/api"
	"orderly/orderly"
)

// model does the picks by the document's words, with no thought of how: who was let in, read and done, by partition and transaction.
// What the transactions come to it takes from the log's own answer.
type model struct {
	config              api.Config
	log                 []api.Txn
	start               map[int]int
	own                 []answer
	touched             [4][24][]int    // the keys of a partition that a transaction touches
	conflicts           [4][24][24]bool // of two transactions in a partition, the earlier one first
	admitted, read, did [4][24]bool
	sent, has           [4][4][24]bool // by the partition that did it, and the other one
	mail                [4][4][]int    // from one to another
}

// answer is what came of a transaction in the log's own answer: its result, and what it left in the keys that it wrote.
type answer struct {
	result api.Result
	left   map[int]*int
}

func newModel(c api.Config, log []api.Txn, start []api.Pair) *model {
	m := &model{config: c, log: log, start: map[int]int{}}
	for _, p := range start {
		m.start[p.Key] = p.Value
	}
	values := maps.Clone(m.start)
	for _, t := range log {
		a := ownAnswer(t, values)
		m.own = append(m.own, a)
		leave(values, a.left)
	}
	for partition := range m.partitions() {
		for txn, t := range log {
			m.touched[partition][txn] = m.touch(partition, t)
			for earlier := range txn {
				m.conflicts[partition][earlier][txn] = m.conflict(partition, earlier, txn)
			}
		}
	}
	return m
}

func leave(values map[int]int, left map[int]*int) {
	for key, value := range left {
		if value == nil {
			delete(values, key)
		} else {
			values[key] = *value
		}
	}
}

// ownAnswer works a transaction out on all values.
func ownAnswer(t api.Txn, values map[int]int) answer {
	a := answer{result: api.Result{Done: true}, left: map[int]*int{}}
	r := &a.result.Registers
	value := func(key int) *int {
		if own, ok := a.left[key]; ok {
			return own
		}
		if v, ok := values[key]; ok {
			return &v
		}
		return nil
	}
	for at := 0; at < len(t.Code); at++ {
		i := t.Code[at]
		switch i.Kind {
		case api.Const:
			r[i.A] = i.B
		case api.Get:
			r[i.A] = 0
			if v := value(i.B); v != nil {
				r[i.A] = *v
			}
		case api.Put:
			v := r[i.B]
			a.left[i.A] = &v
		case api.Delete:
			a.left[i.A] = nil
		case api.Sum, api.Count:
			n := 0
			for key := t.Ranges[i.B].Lo; key <= t.Ranges[i.B].Hi; key++ {
				if v := value(key); v != nil && i.Kind == api.Sum {
					n += *v
				} else if v != nil {
					n++
				}
			}
			r[i.A] = n
		case api.Add:
			r[i.A] = r[i.B] + r[i.C]
		case api.Sub:
			r[i.A] = r[i.B] - r[i.C]
		case api.Jump:
			if r[i.A] < r[i.B] {
				at = i.C - 1
			}
		case api.Abort:
			a.result.Aborted, a.left = true, nil
			return a
		}
	}
	return a
}

func (m *model) partitions() int { return len(m.config.Bounds) + 1 }

func (m *model) home(key int) int {
	return len(slices.DeleteFunc(slices.Clone(m.config.Bounds), func(b int) bool { return b > key }))
}

func (m *model) touch(partition int, t api.Txn) []int {
	var keys []int
	for key := range 100 {
		inRange := slices.ContainsFunc(t.Ranges, func(r api.Range) bool { return key >= r.Lo && key <= r.Hi })
		if m.home(key) == partition && (inRange || slices.Contains(slices.Concat(t.Reads, t.Writes), key)) {
			keys = append(keys, key)
		}
	}
	return keys
}

func (m *model) takesPart(partition, txn int) bool {
	t := m.log[txn]
	if len(t.Reads)+len(t.Writes)+len(t.Ranges) == 0 {
		return partition == 0
	}
	return len(m.touched[partition][txn]) > 0
}

// parts is the partitions in which a transaction takes part.
func (m *model) parts(txn int) []int {
	var list []int
	for partition := range m.partitions() {
		if m.takesPart(partition, txn) {
			list = append(list, partition)
		}
	}
	return list
}

func (m *model) open(partition, txn int) bool {
	return m.admitted[partition][txn] && !m.did[partition][txn]
}

func (m *model) opened(partition int) int {
	n := 0
	for txn := range m.log {
		if m.open(partition, txn) {
			n++
		}
	}
	return n
}

func (m *model) conflict(partition, one, two int) bool {
	return slices.ContainsFunc(m.touched[partition][one], func(key int) bool {
		written := slices.Contains(m.log[one].Writes, key) || slices.Contains(m.log[two].Writes, key)
		return written && slices.Contains(m.touched[partition][two], key)
	})
}

func (m *model) granted(partition, txn int) bool {
	for earlier := range txn {
		if m.open(partition, earlier) && m.conflicts[partition][earlier][txn] {
			return false
		}
	}
	return true
}

func (m *model) readable(partition, txn int) bool {
	return m.open(partition, txn) && !m.read[partition][txn] && m.granted(partition, txn)
}

func (m *model) sendable(partition, other, txn int) bool {
	return m.read[partition][txn] && !m.did[partition][txn] && m.takesPart(other, txn) && !m.sent[partition][other][txn]
}

func (m *model) ready(partition, txn int) bool {
	for other := range m.partitions() {
		both := m.sent[partition][other][txn] && m.has[partition][other][txn]
		if other != partition && m.takesPart(other, txn) && !both {
			return false
		}
	}
	return m.read[partition][txn] && !m.did[partition][txn]
}

// next is the transaction that Admit would let in next.
func (m *model) next(partition int) int {
	for txn := range m.log {
		if m.takesPart(partition, txn) && !m.admitted[partition][txn] {
			return txn
		}
	}
	return len(m.log)
}

// pick does what a pick says of two partitions that there are, or of one and any other.
func (m *model) pick(partition, kind, other int) bool {
	switch kind {
	case api.Admit:
		may := func(txn int) bool { return txn == m.next(partition) && m.opened(partition) < m.config.Window }
		return m.first(1, may, func(txn int) { m.admitted[partition][txn] = true })
	case api.Read:
		may := func(txn int) bool { return m.readable(partition, txn) }
		return m.first(1, may, func(txn int) { m.read[partition][txn] = true })
	case api.Send:
		may := func(txn int) bool {
			return m.sendable(partition, other, txn) && len(m.mail[partition][other]) < m.config.Credits
		}
		return m.first(1, may, func(txn int) {
			m.sent[partition][other][txn] = true
			m.mail[partition][other] = append(m.mail[partition][other], txn)
		})
	case api.Take:
		if len(m.mail[other][partition]) == 0 {
			return false
		}
		m.has[partition][other][m.mail[other][partition][0]] = true
		m.mail[other][partition] = m.mail[other][partition][1:]
		return true
	}
	may := func(txn int) bool { return m.ready(partition, txn) }
	return m.first(m.config.Workers, may, func(txn int) { m.did[partition][txn] = true })
}

// first does something with the first ones of the log that may be, at most so many.
func (m *model) first(most int, may func(int) bool, do func(int)) bool {
	var list []int
	for txn := range m.log {
		if may(txn) && len(list) < most {
			list = append(list, txn)
		}
	}
	for _, txn := range list {
		do(txn)
	}
	return len(list) > 0
}

func (m *model) look(partition int) api.Look {
	l := api.Look{Next: m.next(partition), Open: m.opened(partition)}
	for txn := range m.log {
		if m.open(partition, txn) && !m.granted(partition, txn) {
			l.Waiting++
		} else if m.open(partition, txn) && !m.read[partition][txn] {
			l.Granted++
		}
	}
	return l
}

func (m *model) result(txn int) api.Result {
	for partition := range m.partitions() {
		if m.takesPart(partition, txn) && !m.did[partition][txn] {
			return api.Result{}
		}
	}
	return m.own[txn].result
}

func (m *model) table(partition int) []api.Pair {
	values := maps.Clone(m.start)
	for txn, a := range m.own {
		if m.did[partition][txn] {
			leave(values, a.left)
		}
	}
	var list []api.Pair
	for _, key := range slices.Sorted(maps.Keys(values)) {
		if m.home(key) == partition {
			list = append(list, api.Pair{Key: key, Value: values[key]})
		}
	}
	return list
}

// wantAll holds all that the engine tells against the model (P5, P6, P9).
func (m *model) wantAll(t *testing.T, e *orderly.Engine, what string) {
	t.Helper()
	for txn := range m.log {
		if got, f := e.Result(txn); got != m.result(txn) || f != api.OK {
			t.Fatalf("P6: %s: Result(%d) = %+v, %d, not %+v", what, txn, got, f, m.result(txn))
		}
	}
	for p := range m.partitions() {
		if got, f := e.Table(p); !slices.Equal(got, m.table(p)) || f != api.OK {
			t.Fatalf("P6: %s: Table(%d) = %v, %d, not %v", what, p, got, f, m.table(p))
		}
		got, f := e.Look(p)
		if got != m.look(p) || f != api.OK {
			t.Fatalf("P5: %s: Look(%d) = %+v, %d, not %+v", what, p, got, f, m.look(p))
		}
		if got.Open > m.config.Window {
			t.Fatalf("P9: %s: Open %d, above the Window", what, got.Open)
		}
		for to := range m.partitions() {
			m.wantMail(t, e, what, p, to)
		}
	}
}

func (m *model) wantMail(t *testing.T, e *orderly.Engine, what string, from, to int) {
	t.Helper()
	got, f := e.Mail(from, to)
	if from == to {
		if got != 0 || f != api.ErrPartition {
			t.Fatalf("P5: %s: Mail(%d, %d) = %d, %d", what, from, to, got, f)
		}
		return
	}
	if want := len(m.mail[from][to]); got != want || f != api.OK {
		t.Fatalf("P5: %s: Mail(%d, %d) = %d, %d, not %d", what, from, to, got, f, want)
	}
	if got > m.config.Credits {
		t.Fatalf("P9: %s: Mail(%d, %d) = %d, above the Credits", what, from, to, got)
	}
}
