package orderly_test

import (
	"math"
	"math/rand/v2"
	"slices"

	"orderly/api"
)

// chance makes logs whose transactions often conflict.
type chance struct{ *rand.Rand }

func (c chance) keys() []int {
	list := make([]int, c.IntN(4))
	for i := range list {
		list[i] = []int{0, 1, 24, 25, 49, 50, 98, 99}[c.IntN(8)]
	}
	return list
}

func (c chance) number() int {
	return []int{0, 1, -1, 7, 1000, math.MaxInt, math.MinInt}[c.IntN(7)]
}

func (c chance) txn() api.Txn {
	t := api.Txn{Reads: c.keys(), Writes: c.keys()}
	for range c.IntN(3) {
		lo := c.IntN(100)
		t.Ranges = append(t.Ranges, api.Range{Lo: lo, Hi: min(99, lo+c.IntN(30))})
	}
	length := c.IntN(17)
	for len(t.Code) < length {
		t.Code = append(t.Code, c.ins(t, len(t.Code), length))
	}
	return t
}

// ins tries until it finds an instruction that may stand there.
func (c chance) ins(t api.Txn, at, length int) api.Ins {
	gettable := slices.Concat(t.Reads, t.Writes)
	for {
		i := api.Ins{Kind: 1 + c.IntN(10), A: c.IntN(4), B: c.IntN(4), C: c.IntN(4)}
		switch i.Kind {
		case api.Const:
			i.B = c.number()
		case api.Get:
			if len(gettable) == 0 {
				continue
			}
			i.B = gettable[c.IntN(len(gettable))]
		case api.Put, api.Delete:
			if len(t.Writes) == 0 {
				continue
			}
			i.A = t.Writes[c.IntN(len(t.Writes))]
		case api.Sum, api.Count:
			if len(t.Ranges) == 0 {
				continue
			}
			i.B = c.IntN(len(t.Ranges))
		case api.Jump:
			i.C = at + 1 + c.IntN(length-at)
		case api.Abort:
			if c.IntN(6) > 0 {
				continue
			}
		}
		return i
	}
}

func (c chance) log() []api.Txn {
	list := make([]api.Txn, c.IntN(25))
	for i := range list {
		list[i] = c.txn()
	}
	return list
}

func (c chance) start() []api.Pair {
	var list []api.Pair
	for key := range 100 {
		if len(list) < 40 && c.IntN(3) == 0 {
			list = append(list, api.Pair{Key: key, Value: c.number()})
		}
	}
	return list
}

func (c chance) config(bounds []int) api.Config {
	return api.Config{Bounds: bounds, Window: 1 + c.IntN(8), Credits: 1 + c.IntN(8), Workers: 1 + c.IntN(4)}
}
