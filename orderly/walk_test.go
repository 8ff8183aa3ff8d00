package orderly_test

import (
	"fmt"
	"maps"
	"math/rand/v2"
	"testing"

	"orderly/api"
	"orderly/orderly"
)

var boundsOfWalks = [][]int{nil, {50}, {1, 99}, {1, 25, 99}, {25, 49, 50}}

// pair is an engine and the model that it is held against.
type pair struct {
	*model
	engine *orderly.Engine
	what   string
}

func newPair(t *testing.T, c chance, bounds []int, what string) pair {
	t.Helper()
	config, log, start := c.config(bounds), c.log(), c.start()
	return pair{newModel(config, log, start), wantEngine(t, config, log, start...), fmt.Sprintf("%s, bounds %v", what, bounds)}
}

// both picks of both, and holds all that the engine tells against the model. What a pick that can't be done would change is seen behind the next one that can.
func (p pair) both(t *testing.T, partition, kind, other int) bool {
	t.Helper()
	what := fmt.Sprintf("%s, Pick(%d, %d, %d)", p.what, partition, kind, other)
	want := p.there(partition, kind, other) && p.pick(partition, kind, other)
	if got := p.engine.Pick(partition, kind, other); got != want {
		t.Fatalf("P4: %s is %v", what, got)
	}
	if want {
		p.wantAll(t, p.engine, what)
	}
	return want
}

// there tells whether there is such a pick at all.
func (p pair) there(partition, kind, other int) bool {
	if partition < 0 || partition >= p.partitions() || kind < 1 || kind > 5 {
		return false
	}
	two := other >= 0 && other < p.partitions() && other != partition
	return two || kind != api.Send && kind != api.Take
}

// picks is every pick of every partition, kind and other partition.
func picks(partitions int) [][3]int {
	var list [][3]int
	for partition := range partitions {
		for kind := api.Admit; kind <= api.Work; kind++ {
			for other := range partitions {
				list = append(list, [3]int{partition, kind, other})
			}
		}
	}
	return list
}

// any picks whatever can be picked, and tells whether there was something.
func (p pair) any(t *testing.T) bool {
	t.Helper()
	some := false
	for _, x := range picks(p.partitions()) {
		some = p.both(t, x[0], x[1], x[2]) || some
	}
	return some
}

func (p pair) wantAllDone(t *testing.T, promise string) {
	t.Helper()
	for txn := range p.log {
		if r, f := p.engine.Result(txn); r != p.own[txn].result || f != api.OK {
			t.Fatalf("%s: %s: Result(%d) = %+v, %d, not %+v", promise, p.what, txn, r, f, p.own[txn].result)
		}
	}
}

// walk picks by chance until nothing can be picked; some picks are favoured, so that partitions run ahead of others.
func walk(t *testing.T, seed uint64, bounds []int) pair {
	t.Helper()
	c := chance{rand.New(rand.NewPCG(seed, 2))}
	p := newPair(t, c, bounds, fmt.Sprintf("seed %d", seed))
	for {
		favoured := [3]int{c.IntN(6) - 1, c.IntN(7), c.IntN(6) - 1}
		idle := true
		for range 60 {
			x := [3]int{c.IntN(6) - 1, c.IntN(7), c.IntN(6) - 1}
			if fixed := c.IntN(3); c.IntN(2) == 0 {
				x[fixed] = favoured[fixed]
			}
			idle = !p.both(t, x[0], x[1], x[2]) && idle
		}
		if idle && !p.any(t) {
			p.wantAll(t, p.engine, p.what)
			return p
		}
	}
}

// P7 as well: a walk ends when nothing can be picked, and then all must be done.
func TestP6Walks(t *testing.T) {
	aborted, shown, several := 0, 0, 0
	for seed := range uint64(40) {
		for _, bounds := range boundsOfWalks {
			p := walk(t, seed, bounds)
			p.wantAllDone(t, "P7")
			p.wantTogether(t)
			for txn := range p.log {
				if p.own[txn].result.Aborted {
					aborted++
				} else if p.own[txn].result.Registers != [4]int{} {
					shown++
				}
				if len(p.parts(txn)) > 1 {
					several++
				}
			}
		}
	}
	if aborted < 250 || shown < 250 || several < 250 {
		t.Errorf("the walks show too little: %d aborted, %d with registers, %d in several partitions", aborted, shown, several)
	}
}

// wantTogether works the log out once more, one transaction behind the other, on all of start.
func (p pair) wantTogether(t *testing.T) {
	t.Helper()
	values := maps.Clone(p.start)
	for _, txn := range p.log {
		leave(values, ownAnswer(txn, values).left)
	}
	together := map[int]int{}
	for partition := range p.partitions() {
		table, _ := p.engine.Table(partition)
		for _, x := range table {
			together[x.Key] = x.Value
		}
	}
	if !maps.Equal(together, values) {
		t.Fatalf("P6: %s: the tables together have %v, not %v", p.what, together, values)
	}
}

// round is the picks of one round, in an order by chance or in an order that puts things off: what needs another pick goes ahead of it.
func round(c chance, partitions, way int) [][3]int {
	list := picks(partitions)
	switch way {
	case 0:
		c.Shuffle(len(list), func(i, j int) { list[i], list[j] = list[j], list[i] })
	case 1:
		late := [...]int{api.Admit: 4, api.Read: 3, api.Send: 2, api.Take: 1, api.Work: 0}
		byKind := make([][][3]int, 5)
		for _, x := range list {
			byKind[late[x[1]]] = append(byKind[late[x[1]]], x)
		}
		list = nil
		for _, some := range byKind {
			list = append(list, some...)
		}
	case 2:
		// Some of them more than once.
		for range c.IntN(40) {
			list = append(list, list[c.IntN(len(list))])
		}
		c.Shuffle(len(list), func(i, j int) { list[i], list[j] = list[j], list[i] })
	}
	return list
}

// Whatever was picked before, and whatever the order within the rounds, so many suffice.
func TestP8Rounds(t *testing.T) {
	for seed := range uint64(60) {
		for _, bounds := range boundsOfWalks {
			for way := range 4 {
				c := chance{rand.New(rand.NewPCG(seed, uint64(way)))}
				p := newPair(t, c, bounds, fmt.Sprintf("seed %d, way %d", seed, way))
				for range c.IntN(2) * c.IntN(300) {
					p.engine.Pick(c.IntN(4), 1+c.IntN(5), c.IntN(4))
				}
				for range len(p.log) * (p.config.Credits + 6) {
					for _, x := range round(c, p.partitions(), way) {
						p.engine.Pick(x[0], x[1], x[2])
					}
				}
				p.wantAllDone(t, "P8")
			}
		}
	}
}
