package orderly_test

import (
	"reflect"
	"slices"
	"testing"

	"orderly/api"
	"orderly/orderly"
)

// given is all that is handed to a New. Each list of it has room behind it.
type given struct {
	config api.Config
	log    []api.Txn
	start  []api.Pair
}

func roomy[T any](fill T, list ...T) []T {
	return append(list, fill, fill)[:len(list)]
}

// handedIn is made anew each time, so that two of them share nothing.
func handedIn() given {
	const behind = 77
	first := api.Txn{
		Reads:  roomy(behind, 60, 30),
		Writes: roomy(behind, 61, 62),
		Ranges: roomy(api.Range{Lo: behind}, api.Range{Lo: 70, Hi: 80}),
		Code:   roomy(api.Ins{Kind: behind}, api.Ins{Kind: api.Get, B: 60}, api.Ins{Kind: api.Put, A: 61}, api.Ins{Kind: api.Sum, A: 1}),
	}
	return given{
		config: api.Config{Bounds: roomy(behind, 30, 50), Window: 2, Credits: 3, Workers: 4},
		log:    roomy(api.Txn{Reads: []int{behind}}, first, api.Txn{Reads: roomy(behind, 10)}),
		start:  roomy(api.Pair{Key: behind}, api.Pair{Key: 5, Value: 6}, api.Pair{Key: 30, Value: 8}, api.Pair{Key: 50, Value: 9}),
	}
}

func whole[T any](list []T) []T { return list[:cap(list)] }

// widened shows also what stands behind the lists.
func widened(g given) given {
	g.config.Bounds, g.log, g.start = whole(g.config.Bounds), slices.Clone(whole(g.log)), whole(g.start)
	for i, t := range g.log {
		g.log[i] = api.Txn{Reads: whole(t.Reads), Writes: whole(t.Writes), Ranges: whole(t.Ranges), Code: whole(t.Code)}
	}
	return g
}

// spoil writes over all that g reaches.
func spoil(g given) {
	g = widened(g)
	clear(g.config.Bounds)
	clear(g.start)
	for _, t := range g.log {
		clear(t.Reads)
		clear(t.Writes)
		clear(t.Ranges)
		clear(t.Code)
	}
}

// seen is all that an engine tells.
func seen(e *orderly.Engine) []any {
	var all []any
	for txn := -1; txn <= 24; txn++ {
		result, f := e.Result(txn)
		all = append(all, result, f)
	}
	for i := -1; i <= 4; i++ {
		table, g := e.Table(i)
		look, h := e.Look(i)
		all = append(all, slices.Clip(table), g, look, h)
		for j := -1; j <= 4; j++ {
			mail, f := e.Mail(i, j)
			all = append(all, mail, f)
		}
	}
	return all
}

// drive picks all that can be picked, in one order.
func drive(e *orderly.Engine) {
	for range 24 * (8 + 6) {
		for partition := range 4 {
			for kind := range 7 {
				for other := range 4 {
					e.Pick(partition, kind, other)
				}
			}
		}
	}
}

func TestP2NothingIsWrittenInto(t *testing.T) {
	g := handedIn()
	e := wantEngine(t, g.config, g.log, g.start...)
	drive(e)
	seen(e)
	wantDone(t, e, 2, 0, 1)
	if want := handedIn(); !reflect.DeepEqual(widened(g), widened(want)) {
		t.Errorf("P2: a call changed what New was given: %+v, not %+v", widened(g), widened(want))
	}
	g = handedIn()
	g.log[1].Code = []api.Ins{{}}
	orderly.New(g.config, g.log, g.start...)
	g.log[1].Code = nil
	if want := handedIn(); !reflect.DeepEqual(widened(g), widened(want)) {
		t.Errorf("P2: New changed what it refused: %+v, not %+v", widened(g), widened(want))
	}
}

func TestP2NothingIsKept(t *testing.T) {
	g, spoiled := handedIn(), handedIn()
	e := wantEngine(t, g.config, g.log, g.start...)
	f := wantEngine(t, spoiled.config, spoiled.log, spoiled.start...)
	spoil(spoiled)
	clear(whole(spoiled.log))
	if !reflect.DeepEqual(seen(f), seen(e)) {
		t.Errorf("P2: %v, not %v", seen(f), seen(e))
	}
	if !reflect.DeepEqual(f, e) {
		t.Errorf("P2: an engine has kept what it was given: %+v, not %+v", f, e)
	}
	drive(f)
	drive(e)
	if !reflect.DeepEqual(seen(f), seen(e)) {
		t.Errorf("P2: behind picks %v, not %v", seen(f), seen(e))
	}
}

func TestP2TablesAreNewMemory(t *testing.T) {
	g := handedIn()
	e := wantEngine(t, g.config, g.log, g.start...)
	want := seen(e)
	var answers [][]api.Pair
	for i := range 6 {
		table, _ := e.Table(i % 3)
		answers = append(answers, table)
	}
	for i, answer := range answers {
		if len(answer) != 1 || answer[0] != g.start[i%3] {
			t.Errorf("P2: an answer of Table(%d) shares memory with another one: %v", i%3, answer)
		}
		clear(whole(answer))
	}
	if got := seen(e); !reflect.DeepEqual(got, want) {
		t.Errorf("P2: a table's answer is the engine's memory: %v, not %v", got, want)
	}
}

// What is kept, under way and taken is no table's memory either.
func TestP2TablesBehindPicksOfSeveralPartitions(t *testing.T) {
	log := []api.Txn{adding(5, 60), adding(60, 5), summing(0, 99)}
	e := wantEngine(t, parted(1, 1, 50), log, api.Pair{Key: 5, Value: 3}, api.Pair{Key: 60, Value: 8})
	for range 3 * (1 + 6) {
		for _, x := range picks(2) {
			e.Pick(x[0], x[1], x[2])
			for partition := range 2 {
				table, _ := e.Table(partition)
				clear(whole(table))
			}
		}
	}
	wantResult(t, e, 2, done(13, 2))
	wantTable(t, e, 0, api.Pair{Key: 5, Value: 4})
	wantTable(t, e, 1, api.Pair{Key: 60, Value: 9})
}

// The tables that came out between the picks are the caller's to write into, and stay as they came out.
func TestP2TablesBehindPicks(t *testing.T) {
	log := []api.Txn{adding(5), adding(6), adding(5), summing(0, 9)}
	e := wantEngine(t, single(1, 1), log, api.Pair{Key: 6, Value: 3})
	first, _ := e.Table(0)
	for range log {
		for _, kind := range []int{api.Admit, api.Read, api.Work} {
			wantPicks(t, e, true, times(1, kind)...)
			table, _ := e.Table(0)
			clear(whole(table))
		}
	}
	if len(first) != 1 || first[0] != (api.Pair{Key: 6, Value: 3}) {
		t.Errorf("P2: a pick changed a table that came out before: %v", first)
	}
	wantResult(t, e, 3, done(6, 2))
	wantTable(t, e, 0, api.Pair{Key: 5, Value: 2}, api.Pair{Key: 6, Value: 4})
}

func TestP2EnginesStandAlone(t *testing.T) {
	one := wantEngine(t, plain(), txns(2), api.Pair{Key: 1, Value: 1})
	want := seen(one)
	drive(wantEngine(t, api.Config{Window: 1, Credits: 1, Workers: 1}, txns(3), starting(40)...))
	drive(wantEngine(t, plain(), txns(2), api.Pair{Key: 1, Value: 1}))
	if got := seen(one); !reflect.DeepEqual(got, want) {
		t.Errorf("P2: another engine changed the answers: %v, not %v", got, want)
	}
}
