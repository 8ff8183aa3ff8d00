package check

import (
	"math"
	"slices"
	"testing"

	"orderly/api"
)

func plain() api.Config { return api.Config{Bounds: []int{50}, Window: 1, Credits: 1, Workers: 1} }

func TestP3ConfigNumbers(t *testing.T) {
	fields := []struct {
		name string
		most int
		of   func(c *api.Config) *int
	}{
		{"Window", 8, func(c *api.Config) *int { return &c.Window }},
		{"Credits", 8, func(c *api.Config) *int { return &c.Credits }},
		{"Workers", 4, func(c *api.Config) *int { return &c.Workers }},
	}
	for _, f := range fields {
		for _, n := range []int{math.MinInt, -1, 0, 1, 2, f.most, f.most + 1, math.MaxInt} {
			c := plain()
			*f.of(&c) = n
			if got, want := Config(c), n >= 1 && n <= f.most; got != want {
				t.Errorf("P3: %s %d: %v", f.name, n, got)
			}
		}
	}
}

func TestP3ConfigBounds(t *testing.T) {
	for _, x := range []struct {
		bounds []int
		want   bool
	}{
		{nil, true}, {[]int{}, true}, {[]int{1}, true}, {[]int{99}, true}, {[]int{98, 99}, true}, {[]int{1, 2, 3}, true}, {[]int{97, 98, 99}, true},
		{[]int{0}, false}, {[]int{-1}, false}, {[]int{100}, false}, {[]int{math.MinInt}, false}, {[]int{math.MaxInt}, false},
		{[]int{50, 50}, false}, {[]int{51, 50}, false}, {[]int{5, 50, 50}, false}, {[]int{5, 50, 6}, false}, {[]int{98, 99, 100}, false}, {[]int{1, 0}, false},
		{[]int{1, 2, 3, 4}, false}, {make([]int, 1000), false},
	} {
		c := plain()
		c.Bounds = x.bounds
		if got := Config(c); got != x.want {
			t.Errorf("P3: Bounds %v: %v", x.bounds, got)
		}
	}
}

func TestP3LogPlaces(t *testing.T) {
	wrong := api.Txn{Reads: []int{-1}}
	full := make([]api.Txn, 24)
	last := append(slices.Clone(full[:23]), wrong)
	long := append([]api.Txn{wrong}, full...)
	for _, x := range []struct {
		log []api.Txn
		at  int
		ok  bool
	}{
		{nil, 0, true}, {full, 0, true}, {append(full, api.Txn{}), 24, false}, {long, 24, false}, {make([]api.Txn, 1000), 24, false},
		{[]api.Txn{wrong}, 0, false}, {[]api.Txn{{}, wrong, {}, wrong}, 1, false}, {last, 23, false},
	} {
		if at, ok := Log(x.log); at != x.at || ok != x.ok {
			t.Errorf("P3: Log of %d = %d, %v, not %d, %v", len(x.log), at, ok, x.at, x.ok)
		}
	}
}

func pairs(keys ...int) []api.Pair {
	var list []api.Pair
	for _, k := range keys {
		list = append(list, api.Pair{Key: k, Value: -k})
	}
	return list
}

func upTo(n int) []int {
	var list []int
	for i := range n {
		list = append(list, i)
	}
	return list
}

func TestP3StartPlaces(t *testing.T) {
	for _, x := range []struct {
		keys []int
		at   int
		ok   bool
	}{
		{nil, 0, true}, {[]int{0}, 0, true}, {[]int{99}, 0, true}, {[]int{0, 1, 99}, 0, true}, {upTo(40), 0, true},
		{upTo(41), 40, false}, {append([]int{-1}, upTo(40)...), 40, false}, {upTo(1000), 40, false},
		{[]int{-1}, 0, false}, {[]int{100}, 0, false}, {[]int{math.MinInt}, 0, false}, {[]int{math.MaxInt}, 0, false},
		{[]int{3, 3}, 1, false}, {[]int{3, 2}, 1, false}, {[]int{3, -1}, 1, false}, {[]int{3, 4, 100, 4}, 2, false}, {[]int{3, 9, 4, 5}, 2, false},
		{[]int{99, 99}, 1, false}, {append(upTo(39), 38), 39, false}, {[]int{math.MaxInt, 1}, 0, false},
	} {
		if at, ok := Start(pairs(x.keys...)); at != x.at || ok != x.ok {
			t.Errorf("P3: Start of %v = %d, %v, not %d, %v", x.keys, at, ok, x.at, x.ok)
		}
	}
}
