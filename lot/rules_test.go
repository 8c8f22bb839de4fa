package lot_test

import (
	"math/rand"
	"slices"
	"sync"
	"testing"

	"forecourt/api"
	"forecourt/lot"
)

// everything calls all functions, and puts all results together that can be looked at.
func everything(f api.Fleet, a, b []api.Event, at int) []any {
	w := api.Window{From: at / 2, To: at}
	var all []any
	put := func(results ...any) { all = append(all, results...) }
	put(lot.CheckStations(f.Stations), lot.CheckClasses(f.Classes), lot.CheckFleet(f), lot.Check(f, a))
	for _, s := range f.Stations {
		open, e := lot.IsOpen(s, at)
		next, e2 := lot.NextOpen(s, at)
		minutes, e3 := lot.OpenMinutes(s, w)
		put(open, e, next, e2, minutes, e3)
	}
	for _, c := range f.Classes {
		above, e := lot.Above(f.Classes, c.Key)
		steps, ok, e2 := lot.Steps(f.Classes, "mini", c.Key)
		ready, e3 := lot.Ready(f, a, "air", c.Key, at)
		put(joined(above), e, steps, ok, e2, joined(ready), e3)
	}
	for _, v := range f.Vehicles {
		plate, ok, e := lot.PlateOf(f, v.Key, at)
		state, e2 := lot.StateOf(f, a, v.Key, at)
		spent, e3 := lot.SpentIn(f, a, v.Key, w)
		trips, e4 := lot.Trips(f, a, v.Key)
		put(plate, ok, e, state, e2, spent, e3, len(trips), e4)
	}
	vehicle, ok, e := lot.VehicleOf(f, "AA1", at)
	merged, e2 := lot.Merge(f, a, b)
	broken, e3 := lot.Broken(f, a)
	idle, e4 := lot.Idle(f, a, 3, at)
	use, e5 := lot.Use(f, a, w)
	put(vehicle, ok, e, len(merged), e2, len(broken), e3, joined(idle), e4, use, e5)
	fleetText, e := lot.TextFleet(f)
	logText, e2 := lot.Text(f, a)
	_, line, e3 := lot.ReadFleet(fleetText)
	_, line2, e4 := lot.Read(f, logText)
	put(fleetText, e, logText, e2, line, e3, line2, e4)
	return all
}

func joined(l []string) string {
	s := ""
	for _, x := range l {
		s += x + " "
	}
	return s
}

// Z2, Z7: arguments stay as they are, what is behind their ends is not looked at, and the results are the same each time.
func TestArgumentsStay(t *testing.T) {
	r := rand.New(rand.NewSource(9))
	f, spare := fleet(), fleet()
	l := logOf(r, f, 60, 60)
	rest := slices.Clone(l)
	a, b := l[:20], slices.Clone(l[10:30])
	first := everything(f, a, b, 50)
	for range 20 {
		same(t, "again", everything(f, a, b, 50), first)
	}
	sameFleet(t, "fleet", f, spare)
	same(t, "log, and what is behind it", l, rest)
	same(t, "other log", b, rest[10:30])
}

// Z2: changing a result changes nothing else.
func TestResultsAreNew(t *testing.T) {
	f, l := fleet(), enterAll()
	merged, _ := lot.Merge(f, l, nil)
	merged[0].At = 99
	merged, _ = lot.Merge(f, nil, l)
	merged[0].At = 99
	same(t, "Merge", l, enterAll())
	above, _ := lot.Above(f.Classes, "mini")
	clear(above[:cap(above)])
	ready, _ := lot.Ready(f, l, "air", "mini", 50)
	clear(ready[:cap(ready)])
	idle, _ := lot.Idle(f, l, 0, 50)
	clear(idle[:cap(idle)])
	sameFleet(t, "fleet", f, fleet())
	again, _ := lot.Ready(f, l, "air", "mini", 50)
	same(t, "Ready", again, []string{"v2", "v4", "v3", "v1"})
}

// Z1: functions without objects can be called by any number of goroutines at once.
func TestManyAtOnce(t *testing.T) {
	r := rand.New(rand.NewSource(10))
	f := fleet()
	l := logOf(r, f, 60, 60)
	want := everything(f, l, l[5:], 50)
	got := make([][]any, 8)
	var group sync.WaitGroup
	for i := range got {
		group.Go(func() { got[i] = everything(f, l, l[5:], 50) })
	}
	group.Wait()
	for _, g := range got {
		same(t, "at once", g, want)
	}
}
