package lot_test

import (
	"fmt"
	"math/rand"
	"strings"
	"testing"

	"forecourt/api"
	"forecourt/lot"
)

const fleetText = `station air 0-1440 0-1440 0-1440 0-1440 0-1440 0-1440 0-1440
station north 480-1080 0-0 0-0 0-0 0-0 0-0 0-0
station south 0-0 0-0 0-0 0-0 0-0 0-0 0-0
class bike -
class maxi -
class midi maxi
class mini midi
class van maxi
vehicle v1 maxi
vehicle v2 mini
vehicle v3 midi
vehicle v4 mini
vehicle v5 van
vehicle v6 bike
plate 10 v1 AA1
plate 10 v2 BB2
plate 20 v3 CC3
`

const logText = `0 v1 enter air
5 v1 out air
10 v1 back air
10 v2 come south
15 v1 shop air
20 v1 done air
25 v1 leave air north
30 v1 come north
5761439 v1 gone north
`

func logOfText() []api.Event {
	return []api.Event{
		event(0, "v1", api.EventEnter, "air"),
		event(5, "v1", api.EventOut, "air"),
		event(10, "v1", api.EventBack, "air"),
		event(10, "v2", api.EventCome, "south"),
		event(15, "v1", api.EventShop, "air"),
		event(20, "v1", api.EventDone, "air"),
		leave(25, "v1", "air", "north"),
		event(30, "v1", api.EventCome, "north"),
		event(api.End-1, "v1", api.EventGone, "north"),
	}
}

// P1.7
func TestTextFleet(t *testing.T) {
	text, e := lot.TextFleet(fleet())
	is(t, "TextFleet", text, fleetText)
	is(t, "TextFleet", e, api.OK)
	f, line, e := lot.ReadFleet(fleetText)
	sameFleet(t, "ReadFleet", f, fleet())
	is(t, "ReadFleet", line, 0)
	is(t, "ReadFleet", e, api.OK)

	text, e = lot.TextFleet(api.Fleet{})
	is(t, "nothing", text, "")
	is(t, "nothing", e, api.OK)
	f, line, e = lot.ReadFleet("")
	sameFleet(t, "nothing", f, api.Fleet{})
	is(t, "nothing", line, 0)
	is(t, "nothing", e, api.OK)

	text, e = lot.TextFleet(badFleet())
	is(t, "errors", text, "")
	is(t, "errors", e, badFleetError)
}

// P1.7: the largest fleet can be written, and read again.
func TestTextOfLargestFleet(t *testing.T) {
	long := func(i int) string { return fmt.Sprintf("%s%03d", strings.Repeat("k", api.MaxName-3), i) }
	var f api.Fleet
	for i := range api.MaxStations {
		f.Stations = append(f.Stations, api.Station{Key: long(i), Hours: allWeek(1000, 1440)})
	}
	for i := range api.MaxClasses {
		f.Classes = append(f.Classes, api.Class{Key: long(i)})
	}
	for i := range api.MaxVehicles {
		f.Vehicles = append(f.Vehicles, api.Vehicle{Key: long(i), Class: long(0)})
	}
	for i := range api.MaxPlates {
		f.Plates = append(f.Plates, api.Plate{From: api.End - api.MaxPlates + i, Vehicle: long(0), Plate: "AAAAAAAAAA"})
	}
	text, e := lot.TextFleet(f)
	is(t, "TextFleet", e, api.OK)
	back, _, e := lot.ReadFleet(text)
	sameFleet(t, "ReadFleet", back, f)
	is(t, "ReadFleet", e, api.OK)
}

const closed = " 0-0 0-0 0-0 0-0 0-0 0-0"

// P1.7
func TestReadFleetSyntax(t *testing.T) {
	cases := []struct {
		text string
		line int
	}{
		{"\n", 0},
		{" \n", 0},
		{"station\n", 0},
		{"station s" + closed + "\n", 0},
		{"station s" + closed + " 0-0 0-0\n", 0},
		{"station s 0-0" + closed + " \n", 0},
		{" station s 0-0" + closed + "\n", 0},
		{"station  s 0-0" + closed + "\n", 0},
		{"station s  0-0" + closed + "\n", 0},
		{"Station s 0-0" + closed + "\n", 0},
		{"stations s 0-0" + closed + "\n", 0},
		{"station s 0" + closed + "\n", 0},
		{"station s -" + closed + "\n", 0},
		{"station s 0-" + closed + "\n", 0},
		{"station s -0" + closed + "\n", 0},
		{"station s 0-0-0" + closed + "\n", 0},
		{"station s 0--0" + closed + "\n", 0},
		{"station s 0--5" + closed + "\n", 0},
		{"station s -5-5" + closed + "\n", 0},
		{"station s 00-5" + closed + "\n", 0},
		{"station s 0-05" + closed + "\n", 0},
		{"station s 0-1000000000" + closed + "\n", 0},
		{"station s 0-x" + closed + "\n", 0},
		{"station s 0:5" + closed + "\n", 0},
		{"station s" + closed + " 0-y\n", 0},
		{"class a\n", 0},
		{"class a \n", 0},
		{"class a - -\n", 0},
		{"class\n", 0},
		{"vehicle v\n", 0},
		{"vehicle v c d\n", 0},
		{"plate 1 v\n", 0},
		{"plate 1 v AA1 x\n", 0},
		{"plate x v AA1\n", 0},
		{"plate -0 v AA1\n", 0},
		{"plate 01 v AA1\n", 0},
		{"plate +1 v AA1\n", 0},
		{"plate 1000000000 v AA1\n", 0},
		{"plates 1 v AA1\n", 0},
		{"class a -", 0},
		{"class a -\r\nclass b\n", 1},
		{"class a -\nclass b -\nclass c -", 2},
		{"class a -\n\nclass b -\n", 1},
		{"class a -\nx", 1},
		{"class a -\nstation s 0-0" + closed + "\n", 1},
		{"vehicle v c\nstation s 0-0" + closed + "\n", 1},
		{"vehicle v c\nclass c -\n", 1},
		{"plate 1 v AA1\nvehicle v c\n", 1},
		{"plate 1 v AA1\nclass c -\n", 1},
		{"plate 1 v AA1\nstation s 0-0" + closed + "\n", 1},
		{"station A 0-0" + closed + "\nclass A -\nx\n", 2}, // before what is wrong with a fleet
		{fleetText + "vehicle v7 mini\n", 17},
		{fleetText + "plate 30 v4 ZZ9", 17},
	}
	for _, c := range cases {
		f, line, e := lot.ReadFleet(c.text)
		sameFleet(t, c.text, f, api.Fleet{})
		is(t, c.text, line, c.line)
		is(t, c.text, e, api.ErrSyntax)
	}
}

// P1.7: what has the form of lines, but is no right fleet.
func TestReadFleetErrors(t *testing.T) {
	cases := []struct {
		text string
		want api.Errno
	}{
		{"station s 0-1441" + closed + "\n", api.ErrArg},
		{"station s 5-4" + closed + "\n", api.ErrArg},
		{"station s 0-999999999" + closed + "\n", api.ErrArg},
		{"station S 0-0" + closed + "\n", api.ErrName},
		{"station s\xff 0-0" + closed + "\n", api.ErrName},
		{"class b -\nclass a -\n", api.ErrOrder},
		{"class a --\n", api.ErrName},
		{"class a b\n", api.ErrNone},
		{"class a a\n", api.ErrLoop},
		{"class - -\n", api.ErrName},
		{"class a -\r\n", api.ErrName},
		{"vehicle v c\n", api.ErrNone},
		{"class c -\nvehicle v c\nplate -1 v AA1\n", api.ErrArg},
		{"class c -\nvehicle v c\nplate 999999999 v AA1\n", api.ErrArg},
		{"class c -\nvehicle v c\nplate -999999999 v AA1\n", api.ErrArg},
		{"class c -\nvehicle v c\nplate 1 v A\n", api.ErrForm},
		{"class c -\nvehicle v c\nplate 1 w A1\n", api.ErrNone},
		{strings.Repeat("class a -\n", api.MaxClasses+1), api.ErrLarge},
		{strings.Repeat("x", api.MaxText+1), api.ErrLarge},
		{strings.Repeat("class a -\n", api.MaxText/10) + "\n", api.ErrLarge},
	}
	for _, c := range cases {
		f, line, e := lot.ReadFleet(c.text)
		sameFleet(t, c.text, f, api.Fleet{})
		is(t, c.text, line, 0)
		is(t, c.text, e, c.want)
	}
	_, _, e := lot.ReadFleet(strings.Repeat("x", api.MaxText))
	is(t, "MaxText bytes", e, api.ErrSyntax)
}

// P1.7
func TestText(t *testing.T) {
	f := fleet()
	text, e := lot.Text(f, logOfText())
	is(t, "Text", text, logText)
	is(t, "Text", e, api.OK)
	l, line, e := lot.Read(f, logText)
	same(t, "Read", l, logOfText())
	is(t, "Read", line, 0)
	is(t, "Read", e, api.OK)

	text, e = lot.Text(f, nil)
	is(t, "nothing", text, "")
	is(t, "nothing", e, api.OK)
	l, line, e = lot.Read(f, "")
	same(t, "nothing", l, nil)
	is(t, "nothing", line, 0)
	is(t, "nothing", e, api.OK)

	checksFirst(t, "Text", func(f api.Fleet, l []api.Event) api.Errno {
		text, e := lot.Text(f, l)
		is(t, "errors", text, "")
		return e
	})
}

// P1.7: a text of MaxText bytes is whole, one of more is not.
func TestTextLarge(t *testing.T) {
	vehicle, station := strings.Repeat("v", api.MaxName), strings.Repeat("s", api.MaxName)
	f := api.Fleet{
		Stations: []api.Station{{Key: "abc"}, {Key: "abcd"}, {Key: station}},
		Classes:  []api.Class{{Key: "c"}},
		Vehicles: []api.Vehicle{{Key: vehicle, Class: "c"}},
	}
	var l []api.Event
	for i := range api.MaxText / 100 { // each line has 100 bytes
		l = append(l, leave(1_000_000+i, vehicle, station, "abc"))
	}
	text, e := lot.Text(f, l)
	is(t, "MaxText bytes", len(text), api.MaxText)
	is(t, "MaxText bytes", e, api.OK)
	back, _, e := lot.Read(f, text)
	same(t, "MaxText bytes", back, l)
	is(t, "MaxText bytes", e, api.OK)

	l[len(l)-1].To = "abcd"
	larger, e := lot.Text(f, l)
	is(t, "more", larger, "")
	is(t, "more", e, api.ErrLarge)
	for _, larger := range []string{text + "\n", text + "x", "x" + text} {
		back, line, e := lot.Read(f, larger)
		same(t, "more", back, nil)
		is(t, "more", line, 0)
		is(t, "more", e, api.ErrLarge)
	}
}

// P1.7
func TestReadSyntax(t *testing.T) {
	const good = "5 v1 enter air\n"
	cases := []struct {
		text string
		line int
	}{
		{"\n", 0},
		{" \n", 0},
		{"5\n", 0},
		{"5 v1 enter\n", 0},
		{"5 v1 enter \n", 0},
		{"5 v1 enter air \n", 0},
		{" 5 v1 enter air\n", 0},
		{"5  v1 enter air\n", 0},
		{"5 v1 enter  air\n", 0},
		{"5 v1 enter air north\n", 0},
		{"5 v1 come air north\n", 0},
		{"5 v1 leave air\n", 0},
		{"5 v1 leave air \n", 0},
		{"5 v1 leave air north south\n", 0},
		{"5 v1 Enter air\n", 0},
		{"5 v1 enters air\n", 0},
		{"5 v1 1 air\n", 0},
		{"5 enter v1 air\n", 0},
		{"x v1 enter air\n", 0},
		{"-0 v1 enter air\n", 0},
		{"05 v1 enter air\n", 0},
		{"+5 v1 enter air\n", 0},
		{"1000000000 v1 enter air\n", 0},
		{"5 v1 enter air", 0},
		{good + "\n", 1},
		{good + "6 v1 out air", 1},
		{good + good + "6 v1 over air\n", 2},       // before what is wrong with a log
		{"9 v9 gone nowhere\n-1 v1 out air\nx", 2}, // likewise
		{good + "x\ny\n", 1},
		{good + "x\n" + strings.Repeat(good, api.MaxEvents), 1},
	}
	for _, c := range cases {
		l, line, e := lot.Read(fleet(), c.text)
		same(t, c.text, l, nil)
		is(t, c.text, line, c.line)
		is(t, c.text, e, api.ErrSyntax)
	}
}

// P1.7: what has the form of lines, but is no right log.
func TestReadErrors(t *testing.T) {
	cases := []struct {
		text string
		want api.Errno
	}{
		{"-1 v1 enter air\n", api.ErrArg},
		{"5761440 v1 enter air\n", api.ErrArg},
		{"999999999 v1 enter air\n", api.ErrArg},
		{"-999999999 v1 enter air\n", api.ErrArg},
		{"5 v9 enter air\n", api.ErrNone},
		{"5 V1 enter air\n", api.ErrNone},
		{"5 v1 enter east\n", api.ErrNone},
		{"5 v1 enter air\r\n", api.ErrNone},
		{"5 v1 leave air east\n", api.ErrNone},
		{"5 v1 leave air air\n", api.ErrLoop},
		{"5 v1 enter air\n5 v1 enter air\n", api.ErrOrder},
		{"5 v1 enter air\n4 v1 out air\n", api.ErrOrder},
		{strings.Repeat("5 v1 out air\n", api.MaxEvents+1), api.ErrLarge},
	}
	for _, c := range cases {
		l, line, e := lot.Read(fleet(), c.text)
		same(t, c.text, l, nil)
		is(t, c.text, line, 0)
		is(t, c.text, e, c.want)
	}
	for _, text := range []string{"", "x", logText, strings.Repeat("x", api.MaxText+1)} {
		l, line, e := lot.Read(badFleet(), text)
		same(t, "fleet first", l, nil)
		is(t, "fleet first", line, 0)
		is(t, "fleet first", e, badFleetError)
	}
}

// P1.7, Z10: what is written is read to the same, and what is read is written to the same.
func TestTextsAtRandom(t *testing.T) {
	r := rand.New(rand.NewSource(8))
	f := fleet()
	for range 50 {
		l := logOf(r, f, r.Intn(50), 1000)
		text, _ := lot.Text(f, l)
		back, _, e := lot.Read(f, text)
		same(t, "log", back, l)
		is(t, "log", e, api.OK)
	}
	signs := []byte("0159-- \nvsacx")
	for range 20_000 {
		spoilt := spoil(r, logText, signs)
		if l, _, e := lot.Read(f, spoilt); e == api.OK {
			text, _ := lot.Text(f, l)
			is(t, "spoilt log", text, spoilt)
		}
		spoilt = spoil(r, fleetText, signs)
		if f, _, e := lot.ReadFleet(spoilt); e == api.OK {
			text, _ := lot.TextFleet(f)
			is(t, "spoilt fleet", text, spoilt)
		}
	}
}

// spoil changes, adds or takes away one byte.
func spoil(r *rand.Rand, text string, signs []byte) string {
	at := r.Intn(len(text))
	sign := string(signs[r.Intn(len(signs))])
	switch r.Intn(3) {
	case 0:
		return text[:at] + sign + text[at+1:]
	case 1:
		return text[:at] + sign + text[at:]
	}
	return text[:at] + text[at+1:]
}
