package mark_test

import (
	"testing"

	"forecourt/api"
	"forecourt/mark"
)

// P5.1
func TestCheckPanels(t *testing.T) {
	numbered := func(i int) api.Panel { return api.Panel{Key: key(i), Width: 1, Height: 1} }
	one := func(width, height, price int) []api.Panel {
		return []api.Panel{{Key: "a", Width: width, Height: height, Price: price}}
	}
	runChecks(t, mark.CheckPanels, []check[api.Panel]{
		{"none", nil, api.OK},
		{"ordinary", panels(), api.OK},
		{"MaxPanels", many(api.MaxPanels, numbered), api.OK},
		{"more", many(api.MaxPanels+1, numbered), api.ErrLarge},
		{"large before name", make([]api.Panel, api.MaxPanels+1), api.ErrLarge},
		{"longest key", []api.Panel{{Key: longKey, Width: 1, Height: 1}}, api.OK},
		{"no key", []api.Panel{{Width: 1, Height: 1}}, api.ErrName},
		{"longer key", []api.Panel{{Key: longerKey, Width: 1, Height: 1}}, api.ErrName},
		{"name before order", []api.Panel{numbered(1), {Key: "A", Width: 1, Height: 1}}, api.ErrName},
		{"name before numbers", []api.Panel{{}}, api.ErrName},
		{"same key", []api.Panel{numbered(1), numbered(1)}, api.ErrOrder},
		{"lesser key", []api.Panel{numbered(2), numbered(1)}, api.ErrOrder},
		{"lesser than the one before", []api.Panel{numbered(1), numbered(3), numbered(2)}, api.ErrOrder},
		{"order before numbers", []api.Panel{numbered(1), {Key: "a"}}, api.ErrOrder},
		{"numbers before the next name", []api.Panel{{Key: "a"}, {}}, api.ErrArg},
		{"least", one(1, 1, 0), api.OK},
		{"greatest", one(api.MaxSide, api.MaxSide, api.MaxRate), api.OK},
		{"Width below", one(0, 1, 0), api.ErrArg},
		{"Width above", one(api.MaxSide+1, 1, 0), api.ErrArg},
		{"Height below", one(1, 0, 0), api.ErrArg},
		{"Height above", one(1, api.MaxSide+1, 0), api.ErrArg},
		{"Price below", one(1, 1, -1), api.ErrArg},
		{"Price above", one(1, 1, api.MaxRate+1), api.ErrArg},
		{"least int", one(least, 1, 0), api.ErrArg},
		{"greatest int", one(1, greatest, 0), api.ErrArg},
	})
}

// wellFormed has marks that are well formed, and some that are not.
func wellFormed() []check[api.Mark] {
	numbered := func(i int) api.Mark { return put(key(i), scratch, 0, 0, 1) }
	one := func(kind, x, y, size int) []api.Mark { return []api.Mark{put("a", kind, x, y, size)} }
	after := func(m api.Mark) []api.Mark { return []api.Mark{put("b", dent, 5, 5, 5), m} }
	return []check[api.Mark]{
		{"none", nil, api.OK},
		{"MaxMarks", many(api.MaxMarks, numbered), api.OK},
		{"more", many(api.MaxMarks+1, numbered), api.ErrLarge},
		{"large before name", make([]api.Mark, api.MaxMarks+1), api.ErrLarge},
		{"no key", []api.Mark{put("", scratch, 0, 0, 1)}, api.ErrName},
		{"longest key", []api.Mark{put(longKey, scratch, 0, 0, 1)}, api.OK},
		{"longer key", []api.Mark{put(longerKey, scratch, 0, 0, 1)}, api.ErrName},
		{"name before kind", []api.Mark{put("A", 0, 0, 0, 1)}, api.ErrName},
		{"scratch", one(scratch, 0, 0, 1), api.OK},
		{"dent", one(dent, 0, 0, 1), api.OK},
		{"chip", one(chip, 0, 0, 1), api.OK},
		{"crack", one(crack, 0, 0, 1), api.OK},
		{"kind 0", one(0, 0, 0, 1), api.ErrKind},
		{"kind 5", one(5, 0, 0, 1), api.ErrKind},
		{"kind -1", one(-1, 0, 0, 1), api.ErrKind},
		{"least kind", one(least, 0, 0, 1), api.ErrKind},
		{"greatest kind", one(greatest, 0, 0, 1), api.ErrKind},
		{"kind before numbers", one(0, -1, 0, 0), api.ErrKind},
		{"X below", one(scratch, -1, 0, 1), api.ErrArg},
		{"X above", one(scratch, api.MaxSide+1, 0, 1), api.ErrArg},
		{"least X", one(scratch, least, 0, 1), api.ErrArg},
		{"Y below", one(scratch, 0, -1, 1), api.ErrArg},
		{"Y above", one(scratch, 0, api.MaxSide+1, 1), api.ErrArg},
		{"greatest Y", one(scratch, 0, greatest, 1), api.ErrArg},
		{"greatest Size", one(scratch, 0, 0, api.MaxSize), api.OK},
		{"Size below", one(scratch, 0, 0, 0), api.ErrArg},
		{"Size above", one(scratch, 0, 0, api.MaxSize+1), api.ErrArg},
		{"numbers before order", after(put("a", dent, 5, 5, 0)), api.ErrArg},
		{"the same", after(put("b", dent, 5, 5, 5)), api.ErrOrder},
		{"greater Panel", after(put("c", scratch, 4, 4, 4)), api.OK},
		{"lesser Panel", after(put("a", crack, 6, 6, 6)), api.ErrOrder},
		{"greater Kind", after(put("b", chip, 4, 4, 4)), api.OK},
		{"lesser Kind", after(put("b", scratch, 6, 6, 6)), api.ErrOrder},
		{"greater X", after(put("b", dent, 6, 4, 4)), api.OK},
		{"lesser X", after(put("b", dent, 4, 6, 6)), api.ErrOrder},
		{"greater Y", after(put("b", dent, 5, 6, 4)), api.OK},
		{"lesser Y", after(put("b", dent, 5, 4, 6)), api.ErrOrder},
		{"greater Size than before", after(put("b", dent, 5, 5, 6)), api.OK},
		{"lesser Size than before", after(put("b", dent, 5, 5, 4)), api.ErrOrder},
		{"order before the next one", append(after(put("a", dent, 5, 5, 5)), api.Mark{}), api.ErrOrder},
		{"the first one that is wrong", append(after(put("b", 7, 5, 5, 5)), api.Mark{}), api.ErrKind},
	}
}

// P5.1: what is well formed, for each function that asks for it alone.
func TestWellFormed(t *testing.T) {
	runChecks(t, func(l []api.Mark) api.Errno { _, e := mark.Text(l); return e }, wellFormed())
	wide := api.Panel{Key: "a", Width: api.MaxSide, Height: api.MaxSide}
	runChecks(t, func(l []api.Mark) api.Errno { _, e := mark.Draw(wide, 100, l); return e }, wellFormed())
	runChecks(t, func(l []api.Mark) api.Errno {
		// Without panels the first mark has none, but this is asked for later.
		if e := mark.CheckMarks(nil, l); e != api.ErrNone {
			return e
		}
		return api.OK
	}, wellFormed())
}

// P5.1
func TestCheckMarks(t *testing.T) {
	same := func(count int, panel string, kind int) []api.Mark {
		return many(count, func(i int) api.Mark { return put(panel, kind, i, 0, 1) })
	}
	on := func(l ...api.Mark) []api.Mark { return l }
	runChecks(t, func(l []api.Mark) api.Errno { return mark.CheckMarks(panels(), l) }, []check[api.Mark]{
		{"none", nil, api.OK},
		{"older", older(), api.OK},
		{"newer", newer(), api.OK},
		{"no such panel", on(put("boot", dent, 1, 1, 1)), api.ErrNone},
		{"no such panel behind the last one", on(put("wing", dent, 1, 1, 1)), api.ErrNone},
		{"the last millimetre", on(put("roof", dent, 29, 19, 1)), api.OK},
		{"X is Width", on(put("roof", dent, 30, 19, 1)), api.ErrArg},
		{"Y is Height", on(put("roof", dent, 29, 20, 1)), api.ErrArg},
		{"size goes beyond", on(put("roof", dent, 29, 19, api.MaxSize)), api.OK},
		{"MaxSide is well formed", on(put("door", dent, api.MaxSide, api.MaxSide, 1)), api.ErrArg},
		{"well formed before panels", on(put("boot", dent, 1, 1, 1), put("hood", 0, 1, 1, 1)), api.ErrKind},
		{"order before panels", on(put("boot", dent, 1, 1, 1), put("boot", dent, 1, 1, 1)), api.ErrOrder},
		{"none before the next one's numbers", on(put("boot", dent, 1, 1, 1), put("roof", dent, 30, 1, 1)), api.ErrNone},
		{"numbers before the next one's panel", on(put("door", dent, 1000, 1, 1), put("wing", dent, 1, 1, 1)), api.ErrArg},
		{"MaxSame", append(same(api.MaxSame, "door", dent), same(api.MaxSame, "door", chip)...), api.OK},
		{"MaxSame on two panels", append(same(api.MaxSame, "door", dent), same(api.MaxSame, "hood", dent)...), api.OK},
		{"more", fullMarks(), api.ErrFull},
		{"more of the last kind", append(same(2, "door", dent), same(api.MaxSame+1, "hood", crack)...), api.ErrFull},
		{"none before full", append(fullMarks(), put("wing", dent, 1, 1, 1)), api.ErrNone},
		{"numbers before full", append(fullMarks(), put("roof", dent, 1, 20, 1)), api.ErrArg},
	})
	is(t, "panels first", mark.CheckMarks(badPanels(), badMarks()), badPanelsError)
	is(t, "no panels", mark.CheckMarks(nil, older()), api.ErrNone)
	is(t, "nothing", mark.CheckMarks(nil, nil), api.OK)
	p, l := most(0)
	is(t, "most", mark.CheckMarks(p, l), api.OK)
	is(t, "most", len(l), api.MaxMarks)
}

// P5.1
func TestCheckRules(t *testing.T) {
	const side, size = api.MaxSide, api.MaxSize
	for r, want := range map[api.Rules]api.Errno{
		{}:      api.OK,
		rules(): api.OK,
		{Near: side, Slack: size, Join: side, Part: 1000}: api.OK,
		{Near: -1}:        api.ErrArg,
		{Near: side + 1}:  api.ErrArg,
		{Slack: -1}:       api.ErrArg,
		{Slack: size + 1}: api.ErrArg,
		{Join: -1}:        api.ErrArg,
		{Join: side + 1}:  api.ErrArg,
		{Part: -1}:        api.ErrArg,
		{Part: 1001}:      api.ErrArg,
		{Near: least}:     api.ErrArg,
		{Slack: greatest}: api.ErrArg,
		{Join: least}:     api.ErrArg,
		{Part: greatest}:  api.ErrArg,
	} {
		is(t, "rules", mark.CheckRules(r), want)
	}
}

// P5.1: functions with panels, rules and marks have the errors of CheckRules, then of CheckMarks for a, then for b, before their own.
func TestChecksFirst(t *testing.T) {
	wrong := []api.Pairing{{A: -1, B: -1}}
	pairs := map[string]func(p []api.Panel, r api.Rules, a, b []api.Mark) api.Errno{
		"Match": func(p []api.Panel, r api.Rules, a, b []api.Mark) api.Errno { _, e := mark.Match(p, r, a, b); return e },
		"News":  func(p []api.Panel, r api.Rules, a, b []api.Mark) api.Errno { _, e := mark.News(p, r, a, b); return e },
		"Grown": func(p []api.Panel, r api.Rules, a, b []api.Mark) api.Errno { _, e := mark.Grown(p, r, a, b); return e },
		"Gone":  func(p []api.Panel, r api.Rules, a, b []api.Mark) api.Errno { _, e := mark.Gone(p, r, a, b); return e },
		"Apart": func(p []api.Panel, r api.Rules, a, b []api.Mark) api.Errno {
			_, e := mark.Apart(p, r, a, b, wrong)
			return e
		},
		"Groups": func(p []api.Panel, r api.Rules, a, _ []api.Mark) api.Errno { _, e := mark.Groups(p, r, a); return e },
	}
	for what, call := range pairs {
		is(t, what+": rules", call(badPanels(), badRules(), badMarks(), fullMarks()), badRulesError)
		is(t, what+": panels", call(badPanels(), rules(), badMarks(), fullMarks()), badPanelsError)
		is(t, what+": first marks", call(panels(), rules(), badMarks(), fullMarks()), badMarksError)
		is(t, what+": full", call(panels(), rules(), fullMarks(), badMarks()), fullMarksError)
		if what != "Groups" {
			is(t, what+": second marks", call(panels(), rules(), older(), badMarks()), badMarksError)
			is(t, what+": second marks full", call(panels(), rules(), older(), fullMarks()), fullMarksError)
		}
	}
}
