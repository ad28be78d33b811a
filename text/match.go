package text

// mark: one part of a pattern.
type mark struct {
	kind markKind
	r    rune
}

type markKind int

const (
	itself   markKind = iota // the mark's rune
	anyOne                   // any one rune
	anyRunes                 // any runes, or none
)

const (
	star     = '*'
	question = '?'
	escape   = '\\'
)

// Match: whether a pattern stands for a text: the last row of any runes takes one rune more, where it doesn't go on.
func Match(pattern, s string) bool {
	marks, runes := marksOf(pattern), runesOf(s)
	m, at := 0, 0
	// Where the last row of any runes stands, and where the text goes on behind what it takes.
	// Only that row need ever be gone back to: what an earlier one took could only make less room for it.
	row, behind := -1, 0
	goBack := func() bool {
		if row < 0 {
			return false
		}
		behind++
		m, at = row+1, behind
		return true
	}
	for at < len(runes) {
		switch {
		case m < len(marks) && marks[m].kind == anyRunes:
			row, behind = m, at
			m++
		case m < len(marks) && marks[m].standsFor(runes[at]):
			m++
			at++
		case !goBack():
			return false
		}
	}
	return onlyRows(marks[m:])
}

// standsFor: whether a mark for one rune stands for this one.
func (k mark) standsFor(r rune) bool {
	return k.kind == anyOne || k.kind == itself && k.r == r
}

// onlyRows: whether marks may stand for no rune at all.
func onlyRows(marks []mark) bool {
	for _, k := range marks {
		if k.kind != anyRunes {
			return false
		}
	}
	return true
}

// marksOf: a pattern's parts, in order.
func marksOf(pattern string) []mark {
	var out []mark
	escaped := false
	for _, r := range pattern {
		switch {
		case escaped:
			out = append(out, mark{itself, r})
			escaped = false
		case r == escape:
			escaped = true
		default:
			out = append(out, plainMark(r))
		}
	}
	if escaped {
		// There is none behind it that it could stand for.
		out = append(out, mark{itself, escape})
	}
	return out
}

// plainMark: what a rune without an escape ahead of it stands for.
func plainMark(r rune) mark {
	switch r {
	case star:
		return mark{kind: anyRunes}
	case question:
		return mark{kind: anyOne}
	}
	return mark{itself, r}
}

// runesOf: a text's runes, in order.
func runesOf(s string) []rune {
	var out []rune
	for _, r := range s {
		out = append(out, r)
	}
	return out
}
