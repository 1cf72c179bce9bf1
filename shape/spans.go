package shape

import "tappet/bits"

// span says of the word's bits lo to hi that they are bits of an immediate, bit lo being its bit at. What a format's spans are decides all else of its immediate: its sign, its range, and of what it must be a multiple.
type span struct {
	hi, lo, at int
}

// top is the immediate's highest bit that the span holds.
func (s span) top() int { return s.at + s.hi - s.lo }

// The spans are made by functions, not kept: nothing can change them.

func spansI() []span { return []span{{31, 20, 0}} }

func spansS() []span { return []span{{11, 7, 0}, {31, 25, 5}} }

func spansB() []span { return []span{{11, 8, 1}, {30, 25, 5}, {7, 7, 11}, {31, 31, 12}} }

func spansU() []span { return []span{{31, 12, 12}} }

func spansJ() []span { return []span{{30, 21, 1}, {20, 20, 11}, {19, 12, 12}, {31, 31, 20}} }

// join returns the immediate that the spans of w make, sign-extended.
func join(w uint32, spans ...span) uint64 {
	imm := uint64(0)
	for _, s := range spans {
		imm = bits.Put(imm, s.top(), s.at, bits.Field(uint64(w), s.hi, s.lo))
	}
	return bits.Sext(imm, width(spans...))
}

// spread is join turned round: the bits of imm, at their places in a word that is 0 elsewhere.
func spread(imm int, spans ...span) uint32 {
	w := uint64(0)
	for _, s := range spans {
		w = bits.Put(w, s.hi, s.lo, bits.Field(uint64(imm), s.top(), s.at))
	}
	return uint32(w)
}

// width is how many bits an immediate has, the low ones that are always 0 among them.
func width(spans ...span) int {
	n := 0
	for _, s := range spans {
		n = max(n, s.top()+1)
	}
	return n
}

// inRange reports whether imm is what its low bits are, sign-extended; without spans only 0 is.
func inRange(imm int, spans ...span) bool {
	v := uint64(imm)
	return bits.Sext(v, width(spans...)) == v
}

// inSteps reports whether no bit is set below those that the spans hold.
func inSteps(imm int, spans ...span) bool {
	low := width(spans...)
	for _, s := range spans {
		low = min(low, s.at)
	}
	return bits.Zext(uint64(imm), low) == 0
}
