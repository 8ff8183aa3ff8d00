package orderly

import "orderly/api"

// table is the values by the keys that have one.
type table struct {
	values map[int]int
}

func newTable() table { return table{values: map[int]int{}} }

func (t *table) put(key, value int) { t.values[key] = value }

func (t *table) remove(key int) { delete(t.values, key) }

// pairs goes through the keys, not through the map: the order of a map is no order.
func (t *table) pairs() []api.Pair {
	list := make([]api.Pair, 0, len(t.values))
	for key := range api.MaxKey + 1 {
		if value, ok := t.values[key]; ok {
			list = append(list, api.Pair{Key: key, Value: value})
		}
	}
	return list
}
