package toll_test

import (
	"fmt"
	"math/rand"
	"sync"
	"testing"

	"forecourt/api"
	"forecourt/toll"
)

// everything calls all functions, and puts all results together.
func everything(v values) string {
	var all []any
	put := func(results ...any) { all = append(all, results...) }
	put(toll.CheckGates(v.gates), toll.Check(v.gates, v.a), toll.CheckRules(v.rules), toll.CheckNotices(v.notices), toll.CheckNoticeRules(v.noticeRules))
	merged, e := toll.Merge(v.gates, v.a, v.b)
	put(merged, e)
	at, e := toll.True(v.gates, v.a[0])
	put(at, e)
	doubles, e := toll.Doubles(v.gates, v.rules, v.a)
	put(doubles, e)
	vehicle, hire, e := toll.Owner(v.fleet, v.hires, v.plate, v.at)
	put(vehicle, hire, e)
	charges, e := toll.Charges(v.fleet, v.hires, v.gates, v.rules, v.a)
	put(charges, e)
	lines, e := toll.Lines(v.rules, v.charges, v.hire)
	put(lines, e)
	unknown, e := toll.Unknown(v.fleet, v.gates, v.b)
	put(unknown, e)
	clock, count, e := toll.Clock(v.fleet, v.hires, v.a, v.gate, v.most)
	put(clock, count, e)
	names, e := toll.Names(v.fleet, v.hires, v.noticeRules, v.notices)
	put(names, e)
	cents, e := toll.Due(v.noticeRules, v.notices[0], 50_000)
	put(cents, e)
	text, e := toll.Text(v.a)
	put(text, e)
	read, line, e := toll.Read(text)
	put(read, line, e)
	return fmt.Sprint(all...)
}

// Z2, Z7: arguments stay as they are, what is behind their ends is not looked at, and the results are the same each time.
func TestArgumentsStay(t *testing.T) {
	first := everything(someValues())
	v := someValues()
	v.fleet.Vehicles = append(v.fleet.Vehicles, api.Vehicle{Key: "behind"})
	v.fleet.Plates = append(v.fleet.Plates, api.Plate{Plate: "behind"})
	v.hires = append(v.hires, api.Hire{Key: "behind"})
	v.hires[1].Legs = append(v.hires[1].Legs, api.Leg{Vehicle: "behind"})[:2]
	v.gates = append(v.gates, api.Gate{Key: "behind"})
	v.a, v.b = append(v.a, api.Passage{At: -1}), append(v.b, api.Passage{At: -1})
	v.charges = append(v.charges, api.Charge{Passage: -1})
	v.notices = append(v.notices, api.Notice{Key: "behind"})
	whole := fmt.Sprint(v)
	short := v
	short.fleet.Vehicles, short.fleet.Plates, short.hires, short.gates = v.fleet.Vehicles[:4], v.fleet.Plates[:5], v.hires[:4], v.gates[:3]
	short.a, short.b, short.charges, short.notices = v.a[:3], v.b[:3], v.charges[:2], v.notices[:3]
	for range 20 {
		is(t, "again", everything(short), first)
	}
	is(t, "arguments", fmt.Sprint(v), whole)
	is(t, "behind the legs", v.hires[1].Legs[:3][2].Vehicle, "behind")
}

// Z2: what is put together with nothing is new memory.
func TestMergedIsNew(t *testing.T) {
	a := passages()
	for _, lists := range [][2][]api.Passage{{a, nil}, {nil, a}} {
		l, _ := toll.Merge(gates(), lists[0], lists[1])
		l[0].Cents = 99
	}
	same(t, "passages", a, passages())
}

// Z1: functions without objects can be called by any number of goroutines at once.
func TestManyAtOnce(t *testing.T) {
	v := someValues()
	want := everything(v)
	got := make([]string, 8)
	var group sync.WaitGroup
	for i := range got {
		group.Go(func() { got[i] = everything(v) })
	}
	group.Wait()
	for _, text := range got {
		is(t, "at once", text, want)
	}
}

// Z1, Z3: nothing panics, and with an error other results are zero values, whatever the numbers are.
func TestAnyNumbers(t *testing.T) {
	r := rand.New(rand.NewSource(40))
	number := func() int {
		return []int{least, -api.DayLong, -1, -1, 0, 1, 2, 5, 100, api.DayLong, api.MaxRate, api.End - 1, api.End, greatest}[r.Intn(14)]
	}
	word := func() string { return []string{"", "g1", "g2", "h1", "B", "AB1"}[r.Intn(6)] }
	some := func() bool { return r.Intn(2) == 0 }
	somePass := func(int) api.Passage { return pass(number(), word(), []string{"", "AB1", "CD2"}[r.Intn(3)], number()) }
	zero := func(what string, e api.Errno, none bool) {
		t.Helper()
		is(t, what, e != api.OK && !none, false)
	}
	for range 10_000 {
		v := someValues()
		if some() {
			v.fleet.Plates = []api.Plate{{From: number(), Vehicle: "v1", Plate: "AB1"}, {From: number(), Vehicle: "v2", Plate: "AB1"}}
		}
		if some() {
			v.hires[0].Legs[0].Out.At, v.hires[0].Time.From = number(), number()
		}
		if some() {
			v.gates = many(1+r.Intn(2), func(i int) api.Gate { return api.Gate{Key: fmt.Sprint("g", i+1), Area: word(), Clock: number()} })
		}
		if some() {
			v.rules = api.TollRules{Double: number(), Cap: number(), Fee: number()}
		}
		if some() {
			v.a, v.b = many(1+r.Intn(3), somePass), many(r.Intn(3), somePass)
		}
		merged, e := toll.Merge(v.gates, v.a, v.b)
		zero("Merge", e, len(merged) == 0)
		n, e := toll.True(v.gates, v.a[0])
		zero("True", e, n == 0)
		doubles, e := toll.Doubles(v.gates, v.rules, v.a)
		zero("Doubles", e, len(doubles) == 0)
		vehicle, hire, e := toll.Owner(v.fleet, v.hires, word(), number())
		zero("Owner", e, vehicle == "" && hire == "")
		charges, e := toll.Charges(v.fleet, v.hires, v.gates, v.rules, v.a)
		zero("Charges", e, len(charges) == 0)
		lines, e := toll.Lines(v.rules, []api.Charge{charge(number(), word(), word(), number())}, word())
		zero("Lines", e, len(lines) == 0)
		unknown, e := toll.Unknown(v.fleet, v.gates, v.a)
		zero("Unknown", e, len(unknown) == 0)
		clock, count, e := toll.Clock(v.fleet, v.hires, v.a, word(), number()%97)
		zero("Clock", e, clock == 0 && count == 0)
		rules := api.NoticeRules{Name: number(), Pay: number(), Step: number(), Late: number()}
		if some() {
			rules = noticeRules()
		}
		n1 := api.Notice{Key: word(), Plate: "AB1", At: number(), Came: number(), Cents: number()}
		names, e := toll.Names(v.fleet, v.hires, rules, []api.Notice{n1})
		zero("Names", e, len(names) == 0)
		n, e = toll.Due(rules, n1, number())
		zero("Due", e, n == 0)
		s, e := toll.Text(v.a)
		zero("Text", e, s == "")
	}
}
