package lot

import (
	"slices"

	"forecourt/api"
	"forecourt/basic"
)

// CheckClasses says whether classes are right.
func CheckClasses(l []api.Class) api.Errno {
	if len(l) > api.MaxClasses {
		return api.ErrLarge
	}
	if e := checkClassKeys(l); e != api.OK {
		return e
	}
	ups := upsOf(l)
	for _, c := range l {
		if _, known := ups[c.Up]; c.Up != "" && !known {
			return api.ErrNone
		}
	}
	for _, c := range l {
		if comesBack(ups, c.Key) {
			return api.ErrLoop
		}
	}
	return api.OK
}

func checkClassKeys(l []api.Class) api.Errno {
	before := "" // less than all keys
	for _, c := range l {
		switch {
		case !basic.IsKey(c.Key):
			return api.ErrName
		case c.Key <= before:
			return api.ErrOrder
		case c.Up != "" && !basic.IsKey(c.Up):
			return api.ErrName
		}
		before = c.Key
	}
	return api.OK
}

// upsOf has the Up of each class.
func upsOf(l []api.Class) map[string]string {
	ups := make(map[string]string, len(l))
	for _, c := range l {
		ups[c.Key] = c.Up
	}
	return ups
}

// comesBack says whether a class is part of a loop. The steps are counted, because it may lead to a loop that it is no part of.
func comesBack(ups map[string]string, key string) bool {
	up := ups[key]
	for range len(ups) {
		if up == key {
			return true
		}
		up = ups[up]
	}
	return false
}

// Above returns the classes above one.
func Above(l []api.Class, key string) ([]string, api.Errno) {
	if e := CheckClasses(l); e != api.OK {
		return nil, e
	}
	ups := upsOf(l)
	if _, known := ups[key]; !known {
		return nil, api.ErrNone
	}
	return ladder(ups, key)[1:], api.OK
}

// ladder has a class, and those above it, by the steps to them. The classes are right.
func ladder(ups map[string]string, key string) []string {
	var rungs []string
	for ; key != ""; key = ups[key] {
		rungs = append(rungs, key)
	}
	return rungs
}

// Steps tells how many steps lead from a class to another one.
func Steps(l []api.Class, want, have string) (int, bool, api.Errno) {
	if e := CheckClasses(l); e != api.OK {
		return 0, false, e
	}
	ups := upsOf(l)
	for _, key := range []string{want, have} {
		if _, known := ups[key]; !known {
			return 0, false, api.ErrNone
		}
	}
	steps := slices.Index(ladder(ups, want), have)
	if steps < 0 {
		return 0, false, api.OK
	}
	return steps, true, api.OK
}
