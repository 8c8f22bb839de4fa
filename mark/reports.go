package mark

import (
	"forecourt/api"
	"forecourt/basic"
)

// CheckReports says whether reports are right.
func CheckReports(p []api.Panel, l []api.Report) api.Errno {
	if e := CheckPanels(p); e != api.OK {
		return e
	}
	if len(l) > api.MaxReports {
		return api.ErrLarge
	}
	panels := panelsOf(p)
	before := -1 // less than all moments
	for _, x := range l {
		if !basic.IsMoment(x.At) {
			return api.ErrArg
		}
		if x.At <= before {
			return api.ErrOrder
		}
		if e := checkOn(panels, x.Marks); e != api.OK {
			return e
		}
		before = x.At
	}
	return api.OK
}

// First follows a mark back to where it was seen first.
func First(p []api.Panel, r api.Rules, l []api.Report, report, mark int) (int, int, api.Errno) {
	if e := CheckRules(r); e != api.OK {
		return 0, 0, e
	}
	if e := CheckReports(p, l); e != api.OK {
		return 0, 0, e
	}
	if !isNumber(report, l) || !isNumber(mark, l[report].Marks) {
		return 0, 0, api.ErrNone
	}
	for report > 0 {
		older, was := olderOf(match(r, l[report-1].Marks, l[report].Marks))[mark]
		if !was {
			break
		}
		report, mark = report-1, older
	}
	return report, mark, api.OK
}
