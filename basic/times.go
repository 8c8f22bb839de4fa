package basic

import "forecourt/api"

// NotBack is the In.At of a leg whose vehicle is still out.
const NotBack = -1

// Lasts is the window in which a leg of a hire lasts.
func Lasts(l api.Leg) api.Window {
	if l.In.At == NotBack {
		return api.Window{From: l.Out.At, To: api.End}
	}
	return api.Window{From: l.Out.At, To: l.In.At}
}

// Overlap is how many moments two windows share.
func Overlap(a, b api.Window) int {
	return max(0, min(a.To, b.To)-max(a.From, b.From))
}
