package orderly_test

import (
	"fmt"
	"maps"
	"math"
	"math/rand/v2"
	"slices"
	"testing"

	"orderly/api"
	"orderly/orderly"
)

// model does the picks by the document's words, with no thought of how: who was let in, read and done, by partition and transaction.
// What the transactions come to it takes from the log's own answer.
type model struct {
	config              api.Config
	log                 []api.Txn
	start               map[int]int
	own                 []answer
	touched             [4][24][]int // the keys of a partition that a transaction touches
	admitted, read, did [4][24]bool
}

// answer is what came of a transaction in the log's own answer: its result, and what it left in the keys that it wrote.
type answer struct {
	result api.Result
	left   map[int]*int
}

func newModel(c api.Config, log []api.Txn, start []api.Pair) *model {
	m := &model{config: c, log: log, start: map[int]int{}}
	for _, p := range start {
		m.start[p.Key] = p.Value
	}
	values := maps.Clone(m.start)
	for _, t := range log {
		a := ownAnswer(t, values)
		m.own = append(m.own, a)
		leave(values, a.left)
	}
	for partition := range m.partitions() {
		for txn, t := range log {
			m.touched[partition][txn] = m.touch(partition, t)
		}
	}
	return m
}

func leave(values map[int]int, left map[int]*int) {
	for key, value := range left {
		if value == nil {
			delete(values, key)
		} else {
			values[key] = *value
		}
	}
}

// ownAnswer works a transaction out on all values.
func ownAnswer(t api.Txn, values map[int]int) answer {
	a := answer{result: api.Result{Done: true}, left: map[int]*int{}}
	r := &a.result.Registers
	value := func(key int) *int {
		if own, ok := a.left[key]; ok {
			return own
		}
		if v, ok := values[key]; ok {
			return &v
		}
		return nil
	}
	for at := 0; at < len(t.Code); at++ {
		i := t.Code[at]
		switch i.Kind {
		case api.Const:
			r[i.A] = i.B
		case api.Get:
			r[i.A] = 0
			if v := value(i.B); v != nil {
				r[i.A] = *v
			}
		case api.Put:
			v := r[i.B]
			a.left[i.A] = &v
		case api.Delete:
			a.left[i.A] = nil
		case api.Sum, api.Count:
			n := 0
			for key := t.Ranges[i.B].Lo; key <= t.Ranges[i.B].Hi; key++ {
				if v := value(key); v != nil && i.Kind == api.Sum {
					n += *v
				} else if v != nil {
					n++
				}
			}
			r[i.A] = n
		case api.Add:
			r[i.A] = r[i.B] + r[i.C]
		case api.Sub:
			r[i.A] = r[i.B] - r[i.C]
		case api.Jump:
			if r[i.A] < r[i.B] {
				at = i.C - 1
			}
		case api.Abort:
			a.result.Aborted, a.left = true, nil
			return a
		}
	}
	return a
}

func (m *model) partitions() int { return len(m.config.Bounds) + 1 }

func (m *model) home(key int) int {
	return len(slices.DeleteFunc(slices.Clone(m.config.Bounds), func(b int) bool { return b > key }))
}

func (m *model) touch(partition int, t api.Txn) []int {
	var keys []int
	for key := range 100 {
		inRange := slices.ContainsFunc(t.Ranges, func(r api.Range) bool { return key >= r.Lo && key <= r.Hi })
		if m.home(key) == partition && (inRange || slices.Contains(slices.Concat(t.Reads, t.Writes), key)) {
			keys = append(keys, key)
		}
	}
	return keys
}

func (m *model) takesPart(partition, txn int) bool {
	t := m.log[txn]
	if len(t.Reads)+len(t.Writes)+len(t.Ranges) == 0 {
		return partition == 0
	}
	return len(m.touched[partition][txn]) > 0
}

func (m *model) open(partition, txn int) bool {
	return m.admitted[partition][txn] && !m.did[partition][txn]
}

func (m *model) opened(partition int) int {
	n := 0
	for txn := range m.log {
		if m.open(partition, txn) {
			n++
		}
	}
	return n
}

func (m *model) granted(partition, txn int) bool {
	for earlier := range txn {
		if !m.open(partition, earlier) {
			continue
		}
		for _, key := range m.touched[partition][earlier] {
			both := slices.Contains(m.touched[partition][txn], key)
			if both && (slices.Contains(m.log[earlier].Writes, key) || slices.Contains(m.log[txn].Writes, key)) {
				return false
			}
		}
	}
	return true
}

// ready: as long as nothing is sent, only what takes part here alone.
func (m *model) ready(partition, txn int) bool {
	for other := range m.partitions() {
		if other != partition && m.takesPart(other, txn) {
			return false
		}
	}
	return m.read[partition][txn] && !m.did[partition][txn]
}

// next is the transaction that Admit would let in next.
func (m *model) next(partition int) int {
	for txn := range m.log {
		if m.takesPart(partition, txn) && !m.admitted[partition][txn] {
			return txn
		}
	}
	return len(m.log)
}

func (m *model) pick(partition, kind int) bool {
	done := 0
	for txn := range m.log {
		switch kind {
		case api.Admit:
			if done == 0 && txn == m.next(partition) && m.opened(partition) < m.config.Window {
				m.admitted[partition][txn] = true
				done++
			}
		case api.Read:
			if done == 0 && m.open(partition, txn) && !m.read[partition][txn] && m.granted(partition, txn) {
				m.read[partition][txn] = true
				done++
			}
		case api.Work:
			if done < m.config.Workers && m.ready(partition, txn) {
				m.did[partition][txn] = true
				done++
			}
		}
	}
	return done > 0
}

func (m *model) look(partition int) api.Look {
	l := api.Look{Next: m.next(partition), Open: m.opened(partition)}
	for txn := range m.log {
		if m.open(partition, txn) && !m.granted(partition, txn) {
			l.Waiting++
		} else if m.open(partition, txn) && !m.read[partition][txn] {
			l.Granted++
		}
	}
	return l
}

func (m *model) result(txn int) api.Result {
	for partition := range m.partitions() {
		if m.takesPart(partition, txn) && !m.did[partition][txn] {
			return api.Result{}
		}
	}
	return m.own[txn].result
}

func (m *model) table(partition int) []api.Pair {
	values := maps.Clone(m.start)
	for txn, a := range m.own {
		if m.did[partition][txn] {
			leave(values, a.left)
		}
	}
	var list []api.Pair
	for _, key := range slices.Sorted(maps.Keys(values)) {
		if m.home(key) == partition {
			list = append(list, api.Pair{Key: key, Value: values[key]})
		}
	}
	return list
}

// wantAll holds all that the engine tells against the model (P5, P6, P9).
func (m *model) wantAll(t *testing.T, e *orderly.Engine, what string) {
	t.Helper()
	for txn := range m.log {
		if got, f := e.Result(txn); got != m.result(txn) || f != api.OK {
			t.Fatalf("P6: %s: Result(%d) = %+v, %d, not %+v", what, txn, got, f, m.result(txn))
		}
	}
	for p := range m.partitions() {
		if got, f := e.Table(p); !slices.Equal(got, m.table(p)) || f != api.OK {
			t.Fatalf("P6: %s: Table(%d) = %v, %d, not %v", what, p, got, f, m.table(p))
		}
		got, f := e.Look(p)
		if got != m.look(p) || f != api.OK {
			t.Fatalf("P5: %s: Look(%d) = %+v, %d, not %+v", what, p, got, f, m.look(p))
		}
		if got.Open > m.config.Window {
			t.Fatalf("P9: %s: Open %d, above the Window", what, got.Open)
		}
	}
}

// chance makes logs whose transactions often conflict.
type chance struct{ *rand.Rand }

func (c chance) keys() []int {
	list := make([]int, c.IntN(4))
	for i := range list {
		list[i] = []int{0, 1, 24, 25, 49, 50, 98, 99}[c.IntN(8)]
	}
	return list
}

func (c chance) number() int {
	return []int{0, 1, -1, 7, 1000, math.MaxInt, math.MinInt}[c.IntN(7)]
}

func (c chance) txn() api.Txn {
	t := api.Txn{Reads: c.keys(), Writes: c.keys()}
	for range c.IntN(3) {
		lo := c.IntN(100)
		t.Ranges = append(t.Ranges, api.Range{Lo: lo, Hi: min(99, lo+c.IntN(30))})
	}
	length := c.IntN(17)
	for len(t.Code) < length {
		t.Code = append(t.Code, c.ins(t, len(t.Code), length))
	}
	return t
}

// ins tries until it finds an instruction that may stand there.
func (c chance) ins(t api.Txn, at, length int) api.Ins {
	gettable := slices.Concat(t.Reads, t.Writes)
	for {
		i := api.Ins{Kind: 1 + c.IntN(10), A: c.IntN(4), B: c.IntN(4), C: c.IntN(4)}
		switch i.Kind {
		case api.Const:
			i.B = c.number()
		case api.Get:
			if len(gettable) == 0 {
				continue
			}
			i.B = gettable[c.IntN(len(gettable))]
		case api.Put, api.Delete:
			if len(t.Writes) == 0 {
				continue
			}
			i.A = t.Writes[c.IntN(len(t.Writes))]
		case api.Sum, api.Count:
			if len(t.Ranges) == 0 {
				continue
			}
			i.B = c.IntN(len(t.Ranges))
		case api.Jump:
			i.C = at + 1 + c.IntN(length-at)
		case api.Abort:
			if c.IntN(6) > 0 {
				continue
			}
		}
		return i
	}
}

func (c chance) log() []api.Txn {
	list := make([]api.Txn, c.IntN(25))
	for i := range list {
		list[i] = c.txn()
	}
	return list
}

func (c chance) start() []api.Pair {
	var list []api.Pair
	for key := range 100 {
		if len(list) < 40 && c.IntN(3) == 0 {
			list = append(list, api.Pair{Key: key, Value: c.number()})
		}
	}
	return list
}

func (c chance) config(bounds []int) api.Config {
	return api.Config{Bounds: bounds, Window: 1 + c.IntN(8), Credits: 1 + c.IntN(8), Workers: 1 + c.IntN(4)}
}

// walk picks by chance until nothing is left to be picked of Admit, Read and Work, and holds all against the model behind each pick.
func walk(t *testing.T, seed uint64, bounds []int) *model {
	c := chance{rand.New(rand.NewPCG(seed, 2))}
	config, log, start := c.config(bounds), c.log(), c.start()
	e, m := wantEngine(t, config, log, start...), newModel(config, log, start)
	for idle := 0; idle < 100; idle++ {
		p, kind := c.IntN(m.partitions()), []int{api.Admit, api.Read, api.Work}[c.IntN(3)]
		what := fmt.Sprintf("seed %d, bounds %v, Pick(%d, %d)", seed, bounds, p, kind)
		got, want := e.Pick(p, kind, c.IntN(4)), m.pick(p, kind)
		if got != want {
			t.Fatalf("P4: %s is %v", what, got)
		}
		if got {
			idle = 0
		}
		m.wantAll(t, e, what)
	}
	return m
}

// P7 as well: a walk of one partition ends when nothing can be picked, and then all are done.
func TestP6WalksOfOnePartition(t *testing.T) {
	aborted, shown := 0, 0
	for seed := range uint64(60) {
		m := walk(t, seed, nil)
		for txn := range m.log {
			if !m.did[0][txn] {
				t.Fatalf("P7: seed %d: %d is not done, and nothing can be picked", seed, txn)
			}
			if m.own[txn].result.Aborted {
				aborted++
			} else if m.own[txn].result.Registers != [4]int{} {
				shown++
			}
		}
	}
	if aborted < 50 || shown < 50 {
		t.Errorf("the walks show too little: %d aborted, %d with registers", aborted, shown)
	}
}

// Transactions that take part elsewhere are let in and read, but not worked out, as long as nothing is sent.
func TestP4WalksOfSeveralPartitions(t *testing.T) {
	for seed := range uint64(40) {
		walk(t, seed, []int{50})
		walk(t, seed, []int{1, 25, 99})
	}
}

// P8 of one partition: nothing is sent, and the rounds suffice whatever their order.
func TestP8RoundsOfOnePartition(t *testing.T) {
	for seed := range uint64(60) {
		c := chance{rand.New(rand.NewPCG(seed, 3))}
		config, log := c.config(nil), c.log()
		e := wantEngine(t, config, log)
		for range len(log) * (config.Credits + 6) {
			for _, kind := range c.Perm(7) {
				e.Pick(0, kind, 0)
			}
		}
		for txn := range log {
			if r, f := e.Result(txn); !r.Done || f != api.OK {
				t.Fatalf("P8: seed %d: Result(%d) = %+v, %d", seed, txn, r, f)
			}
		}
	}
}
