package mark_test

import (
	"math/rand"
	"strconv"
	"strings"
	"testing"

	"forecourt/api"
	"forecourt/mark"
)

// P5.6
func TestDraw(t *testing.T) {
	door := api.Panel{Key: "door", Width: 25, Height: 20}
	dents := func(count int) []api.Mark {
		return sorted(many(count, func(i int) api.Mark { return put("door", dent, 10+i%10, i/10, 1) }))
	}
	cases := []struct {
		what string
		p    api.Panel
		step int
		l    []api.Mark
		want string
	}{
		{"nothing", door, 10, nil, "...\n...\n"},
		{"kinds", door, 10, []api.Mark{put("door", scratch, 0, 0, 1), put("door", dent, 24, 0, 1), put("door", chip, 9, 10, 1), put("door", crack, 10, 19, 1)}, "s.d\nck.\n"},
		{"the ends of squares", door, 10, []api.Mark{put("door", scratch, 9, 9, 1), put("door", dent, 10, 9, 1), put("door", chip, 20, 10, 1)}, "sd.\n..c\n"},
		{"two of two kinds", door, 10, []api.Mark{put("door", scratch, 0, 0, 1), put("door", dent, 9, 9, 1), put("door", crack, 24, 19, 1)}, "2..\n..k\n"},
		{"two of one kind", door, 10, dents(2), ".2.\n...\n"},
		{"more than MaxSame", door, 10, dents(7), ".7.\n...\n"},
		{"8", door, 10, dents(8), ".8.\n...\n"},
		{"9", door, 10, dents(9), ".9.\n...\n"},
		{"10", door, 10, dents(10), ".9.\n...\n"},
		{"MaxMarks", door, 10, dents(api.MaxMarks), ".9.\n...\n"},
		{"other panels", door, 10, []api.Mark{put("boot", dent, 0, 0, 1), put("door", dent, 0, 0, 1), put("wing", dent, 0, 0, 1)}, "d..\n...\n"},
		{"beyond the width", door, 10, []api.Mark{put("door", dent, 24, 0, 1), put("door", dent, 25, 0, 1), put("door", dent, 26, 0, 1)}, "..d\n...\n"},
		{"beyond the height", api.Panel{Key: "door", Width: 20, Height: 25}, 10, []api.Mark{put("door", dent, 0, 24, 1), put("door", dent, 0, 25, 1), put("door", dent, 0, api.MaxSide, 1)}, "..\n..\nd.\n"},
		{"a smaller row", api.Panel{Key: "door", Width: 10, Height: 21}, 10, nil, ".\n.\n.\n"},
		{"a smaller column", api.Panel{Key: "door", Width: 21, Height: 10}, 10, nil, "...\n"},
		{"a panel that is smaller than a square", api.Panel{Key: "door", Width: 1, Height: 1}, 10, []api.Mark{put("door", dent, 0, 0, 1)}, "d\n"},
		{"the greatest step", api.Panel{Key: "door", Width: api.MaxSide, Height: api.MaxSide}, api.MaxSide, []api.Mark{put("door", dent, 4999, 4999, 1)}, "d\n"},
		{"another step", api.Panel{Key: "door", Width: 24, Height: 13}, 12, []api.Mark{put("door", dent, 11, 12, 1), put("door", dent, 12, 11, 1)}, ".d\nd.\n"},
	}
	for _, c := range cases {
		s, e := mark.Draw(c.p, c.step, c.l)
		is(t, c.what, s, c.want)
		is(t, c.what, e, api.OK)
	}
}

// P5.6
func TestDrawErrors(t *testing.T) {
	wide := func(width, height int) api.Panel { return api.Panel{Key: "door", Width: width, Height: height} }
	cases := []struct {
		what string
		p    api.Panel
		step int
		l    []api.Mark
		want api.Errno
	}{
		{"no panel", api.Panel{}, 0, badMarks(), api.ErrName},
		{"panel", badPanels()[0], 0, badMarks(), badPanelsError},
		{"panel without width", wide(0, 5), 10, badMarks(), api.ErrArg},
		{"lesser step", wide(5, 5), 9, badMarks(), api.ErrArg},
		{"step 0", wide(5, 5), 0, nil, api.ErrArg},
		{"greater step", wide(5, 5), api.MaxSide + 1, nil, api.ErrArg},
		{"least step", wide(5, 5), least, nil, api.ErrArg},
		{"greatest int", wide(5, 5), greatest, nil, api.ErrArg},
		{"marks", wide(5000, 5000), 10, badMarks(), badMarksError},
		{"full marks", wide(5, 5), 10, fullMarks(), api.OK},
		{"marks of no panel", wide(5, 5), 10, []api.Mark{put("wing", dent, 5, 5, 5)}, api.OK},
		{"too large", wide(5000, 5000), 10, nil, api.ErrLarge},
		{"MaxText bytes", wide(3990, 5000), 10, nil, api.OK}, // 500 lines of 400 bytes
		{"a column more", wide(3991, 5000), 10, nil, api.ErrLarge},
		{"a byte more", wide(4880, 4090), 10, nil, api.ErrLarge},    // 409 lines of 489 bytes
		{"a greater step", wide(5000, 5000), 11, nil, api.ErrLarge}, // 455 lines of 456 bytes
		{"a step that is great enough", wide(5000, 5000), 12, nil, api.OK},
	}
	for _, c := range cases {
		s, e := mark.Draw(c.p, c.step, c.l)
		is(t, c.what, e, c.want)
		is(t, c.what, e != api.OK && s != "", false)
	}
	s, _ := mark.Draw(wide(3990, 5000), 10, nil)
	is(t, "MaxText", len(s), api.MaxText)
}

// P5.6: each square, against the marks that are in it.
func TestDrawAtRandom(t *testing.T) {
	r := rand.New(rand.NewSource(27))
	for range 500 {
		p := api.Panel{Key: "door", Width: 1 + r.Intn(60), Height: 1 + r.Intn(60)}
		step := 10 + r.Intn(15)
		var l []api.Mark
		for i := range r.Intn(40) {
			l = append(l, put([]string{"door", "hood"}[r.Intn(5)/4], 1+r.Intn(4), r.Intn(70), r.Intn(70), i+1))
		}
		l = sorted(l)
		want := ""
		for y := 0; y < p.Height; y += step {
			for x := 0; x < p.Width; x += step {
				count, sign := 0, "."
				for _, m := range l {
					if m.Panel == "door" && m.X < p.Width && m.Y < p.Height && x <= m.X && m.X < x+step && y <= m.Y && m.Y < y+step {
						count++
						sign = "sdck"[m.Kind-1 : m.Kind]
					}
				}
				if count > 1 {
					sign = strconv.Itoa(min(count, 9))
				}
				want += sign
			}
			want += "\n"
		}
		s, e := mark.Draw(p, step, l)
		is(t, "drawing", s, want)
		is(t, "drawing", e, api.OK)
	}
}

const olderText = `door scratch 100 100 10
door scratch 110 100 10
door dent 10 10 5
hood crack 700 700 300
`

// P5.6
func TestText(t *testing.T) {
	s, e := mark.Text(older())
	is(t, "older", s, olderText)
	is(t, "older", e, api.OK)
	s, e = mark.Text(nil)
	is(t, "none", s, "")
	is(t, "none", e, api.OK)
	s, e = mark.Text([]api.Mark{put("door", chip, 1, 2, 3)})
	is(t, "chip", s, "door chip 1 2 3\n")
	is(t, "chip", e, api.OK)
	s, e = mark.Text(badMarks())
	is(t, "wrong", s, "")
	is(t, "wrong", e, badMarksError)
	s, e = mark.Text(fullMarks())
	is(t, "full", strings.Count(s, "\n"), api.MaxSame+1)
	is(t, "full", e, api.OK)
	long := many(api.MaxMarks, func(i int) api.Mark { return put(longKey, scratch, api.MaxSide, 4900+i, api.MaxSize) })
	s, e = mark.Text(long)
	is(t, "longest", len(s), api.MaxMarks*(api.MaxName+len(" scratch 5000 4900 2000\n")))
	is(t, "longest", e, api.OK)
	back, _, e := mark.Read(s)
	same(t, "longest", back, long)
	is(t, "longest", e, api.OK)
}

// P5.6
func TestRead(t *testing.T) {
	const line = "door dent 1 2 3\n"
	cases := []struct {
		what string
		text string
		want []api.Mark
		line int
		e    api.Errno
	}{
		{"empty", "", nil, 0, api.OK},
		{"one", line, []api.Mark{put("door", dent, 1, 2, 3)}, 0, api.OK},
		{"older", olderText, older(), 0, api.OK},
		{"an empty line", "\n", nil, 0, api.ErrSyntax},
		{"an empty line at the end", line + "\n", nil, 1, api.ErrSyntax},
		{"not ended", line + line[:len(line)-1], nil, 1, api.ErrSyntax},
		{"one word", "door\n", nil, 0, api.ErrSyntax},
		{"two words", "door dent\n", nil, 0, api.ErrSyntax},
		{"four words", "door dent 1 2\n", nil, 0, api.ErrSyntax},
		{"six words", "door dent 1 2 3 4\n", nil, 0, api.ErrSyntax},
		{"another word", "door hole 1 2 3\n", nil, 0, api.ErrSyntax},
		{"a number for the word", "door 2 1 2 3\n", nil, 0, api.ErrSyntax},
		{"a part of the word", "door den 1 2 3\n", nil, 0, api.ErrSyntax},
		{"a capital letter", "door Dent 1 2 3\n", nil, 0, api.ErrSyntax},
		{"two blanks", "door dent 1  2 3\n", nil, 0, api.ErrSyntax},
		{"an empty word for the panel", " dent 1 2 3\n", nil, 0, api.ErrSyntax},
		{"an empty word for the kind", "door  1 2 3\n", nil, 0, api.ErrSyntax},
		{"a blank at the end", "door dent 1 2 3 \n", nil, 0, api.ErrSyntax},
		{"a carriage return", "door dent 1 2 3\r\n", nil, 0, api.ErrSyntax},
		{"a tab", "door dent\t1 2 3\n", nil, 0, api.ErrSyntax},
		{"X is no number", line + "door dent x 2 3\n", nil, 1, api.ErrSyntax},
		{"Y is no number", line + "door dent 1 02 3\n", nil, 1, api.ErrSyntax},
		{"Size is no number", line + "door dent 1 2 +3\n", nil, 1, api.ErrSyntax},
		{"-0", line + "door dent -0 2 3\n", nil, 1, api.ErrSyntax},
		{"ten digits", line + "door dent 1 1000000000 3\n", nil, 1, api.ErrSyntax},
		{"nine digits", "door dent 1 999999999 3\n", nil, 0, api.ErrArg},
		{"below 0", "door dent -1 2 3\n", nil, 0, api.ErrArg},
		{"the first such line", line + line + "x\ny\n", nil, 2, api.ErrSyntax},
		{"syntax before what is wrong", "Door dent 1 2 3\nx\n", nil, 1, api.ErrSyntax},
		{"syntax before too many", strings.Repeat(line, api.MaxMarks+1) + "x\n", nil, api.MaxMarks + 1, api.ErrSyntax},
		{"no key", "Door dent 1 2 3\n", nil, 0, api.ErrName},
		{"a panel with other bytes", "d\xff dent 1 2 3\n", nil, 0, api.ErrName},
		{"Size 0", "door dent 1 2 0\n", nil, 0, api.ErrArg},
		{"twice", line + line, nil, 0, api.ErrOrder},
		{"full", "door dent 0 0 1\ndoor dent 1 0 1\ndoor dent 2 0 1\ndoor dent 3 0 1\ndoor dent 4 0 1\ndoor dent 5 0 1\ndoor dent 6 0 1\n", fullMarks(), 0, api.OK},
		{"too many", strings.Repeat(line, api.MaxMarks+1), nil, 0, api.ErrLarge},
		{"MaxText bytes", strings.Repeat(line, api.MaxText/len(line)), nil, 0, api.ErrLarge},
		{"MaxText bytes of lines that have no form", strings.Repeat("\n", api.MaxText), nil, 0, api.ErrSyntax},
		{"more", strings.Repeat("\n", api.MaxText+1), nil, 0, api.ErrLarge},
	}
	for _, c := range cases {
		l, line, e := mark.Read(c.text)
		same(t, c.what, l, c.want)
		is(t, c.what, line, c.line)
		is(t, c.what, e, c.e)
	}
}

// P5.6, Z10: what is written is read to the same, and what is read is written to the same.
func TestTextsAtRandom(t *testing.T) {
	r := rand.New(rand.NewSource(28))
	for range 500 {
		l := someMarks(r, r.Intn(14))
		text, e := mark.Text(l)
		is(t, "marks", e, api.OK)
		back, _, e := mark.Read(text)
		same(t, "marks", back, l)
		is(t, "marks", e, api.OK)
	}
	const signs = "0159-- \nhdk"
	count := 0
	for range 20_000 {
		at, sign := r.Intn(len(olderText)), string(signs[r.Intn(len(signs))])
		spoilt := []string{olderText[:at] + sign + olderText[at+1:], olderText[:at] + sign + olderText[at:], olderText[:at] + olderText[at+1:]}[r.Intn(3)]
		if l, _, e := mark.Read(spoilt); e == api.OK {
			text, _ := mark.Text(l)
			is(t, "spoilt", text, spoilt)
			count++
		}
	}
	if count < 1000 {
		t.Errorf("only %d spoilt texts could be read", count)
	}
}
