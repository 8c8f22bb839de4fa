package basic

import "forecourt/api"

// Merge puts two lists together, each of which rises in an order; what is equal is there once. It is ErrConflict if two elements that differ have one place in the order, and then ErrLarge if there would be more than so many.
func Merge[T comparable](a, b []T, compare func(x, y T) int, most int) ([]T, api.Errno) {
	merged := make([]T, 0, len(a)+len(b))
	for len(a) > 0 && len(b) > 0 {
		order := compare(a[0], b[0])
		if order == 0 && a[0] != b[0] {
			return nil, api.ErrConflict
		}
		if order > 0 {
			a, b = b, a
		}
		merged = append(merged, a[0])
		a = a[1:]
		if order == 0 {
			b = b[1:]
		}
	}
	merged = append(merged, a...)
	merged = append(merged, b...)
	if len(merged) > most {
		return nil, api.ErrLarge
	}
	return merged, api.OK
}
