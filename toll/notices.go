package toll

import (
	"forecourt/api"
	"forecourt/basic"
)

// CheckNotices says whether notices are right.
func CheckNotices(l []api.Notice) api.Errno {
	if len(l) > api.MaxNotices {
		return api.ErrLarge
	}
	before := "" // less than all keys
	for _, n := range l {
		switch {
		case !basic.IsKey(n.Key):
			return api.ErrName
		case n.Key <= before:
			return api.ErrOrder
		case !basic.IsPlate(n.Plate):
			return api.ErrForm
		case !basic.IsMoment(n.Came) || !basic.Within(n.At, 0, n.Came) || !isRate(n.Cents):
			return api.ErrArg
		}
		before = n.Key
	}
	return api.OK
}

// CheckNoticeRules says whether rules are right.
func CheckNoticeRules(r api.NoticeRules) api.Errno {
	if !basic.Within(r.Name, 0, api.MaxDay) || !basic.Within(r.Pay, 0, api.MaxDay) ||
		!basic.Within(r.Step, 1, api.MaxDay) || !isRate(r.Late) {
		return api.ErrArg
	}
	return api.OK
}

// Names returns who is to be named for notices.
func Names(f api.Fleet, hires []api.Hire, r api.NoticeRules, l []api.Notice) ([]api.Named, api.Errno) {
	if e := checkOwners(f, hires); e != api.OK {
		return nil, e
	}
	if e := CheckNoticeRules(r); e != api.OK {
		return nil, e
	}
	if e := CheckNotices(l); e != api.OK {
		return nil, e
	}
	drivers := make(map[string]string, len(hires))
	for _, h := range hires {
		drivers[h.Key] = h.Driver
	}
	who := ownersOf(f, hires)
	var named []api.Named
	for _, n := range l {
		if key := who.hire(n.Plate, n.At); key != nobody {
			named = append(named, api.Named{Notice: n.Key, Hire: key, Driver: drivers[key], By: nameBy(r, n)})
		}
	}
	if len(named) > api.MaxNamed {
		return nil, api.ErrLarge
	}
	return named, api.OK
}

// nameBy is the last moment to name somebody for a notice.
func nameBy(r api.NoticeRules, n api.Notice) int {
	day := n.Came/api.DayLong + r.Name
	return min((day+1)*api.DayLong, api.End) - 1
}

// Due is what is due for a notice.
func Due(r api.NoticeRules, n api.Notice, at int) (int, api.Errno) {
	if e := CheckNoticeRules(r); e != api.OK {
		return 0, e
	}
	if e := CheckNotices([]api.Notice{n}); e != api.OK {
		return 0, e
	}
	if !basic.IsMoment(at) {
		return 0, api.ErrArg
	}
	if at < n.Came {
		return 0, api.ErrState
	}
	late := max(0, at/api.DayLong-n.Came/api.DayLong-r.Pay)
	return n.Cents + r.Late*basic.Begun(late, r.Step), api.OK
}
