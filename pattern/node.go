package pattern

import "ribbon/api"

// node is a part of a pattern that was read. emit writes its instructions, such that they go on at next, and tells where they begin.
type node interface {
	size() int
	emit(l *list, next int) int
}

// tooLarge stands for every size above the bound, as repeats in one another could make numbers of any length.
const tooLarge = api.MaxSize + 1

// endless is the upper bound of a repeat that has none.
const endless = -1

type branches []node

func (b branches) size() int {
	sum := len(b) - 1
	for _, branch := range b {
		sum += branch.size()
	}
	return min(sum, tooLarge)
}

func (b branches) emit(l *list, next int) int {
	last := len(b) - 1
	begin := b[last].emit(l, next)
	for i := last - 1; i >= 0; i-- {
		begin = l.add(instruction{kind: kindSplit, next: b[i].emit(l, next), other: begin})
	}
	return begin
}

// row is pieces side by side.
type row []node

func (w row) size() int {
	sum := 0
	for _, piece := range w {
		sum += piece.size()
	}
	return min(sum, tooLarge)
}

func (w row) emit(l *list, next int) int {
	for i := len(w) - 1; i >= 0; i-- {
		next = w[i].emit(l, next)
	}
	return next
}

// one is an atom that takes a byte.
type one struct{ bytes set }

func (o one) size() int { return 1 }

func (o one) emit(l *list, next int) int {
	return l.add(instruction{kind: kindByte, next: next, bytes: o.bytes, depth: l.depth})
}

// edge is the text's beginning or its end.
type edge struct{ kind kind }

func (e edge) size() int { return 1 }

func (e edge) emit(l *list, next int) int {
	return l.add(instruction{kind: e.kind, next: next})
}

type group struct {
	number int
	inner  node
}

func (g group) size() int {
	return min(g.inner.size()+2, tooLarge)
}

func (g group) emit(l *list, next int) int {
	end := l.add(instruction{kind: kindNote, next: next, slot: 2*g.number + 1})
	return l.add(instruction{kind: kindNote, next: g.inner.emit(l, end), slot: 2 * g.number})
}

// repeat is every kind of repeat: each of them is as one with bounds.
type repeat struct {
	inner       node
	least, most int
}

func (r repeat) size() int {
	inner := r.inner.size()
	if r.most == endless {
		return min((r.least+1)*inner+1, tooLarge)
	}
	return min(r.most*inner+r.most-r.least, tooLarge)
}

func (r repeat) emit(l *list, next int) int {
	var begin int
	if r.most == endless {
		begin = r.emitTurns(l, next)
	} else {
		begin = r.emitMore(l, next)
	}
	for range r.least {
		begin = r.inner.emit(l, begin)
	}
	return begin
}

// emitMore writes what may come behind the least: each `?` lies within the one ahead, so leaving any of them leaves all.
func (r repeat) emitMore(l *list, next int) int {
	begin := next
	for range r.most - r.least {
		begin = l.add(instruction{kind: kindSplit, next: r.inner.emit(l, begin), other: next})
	}
	return begin
}

// emitTurns writes a `*`: each turn ends at an instruction that lets it go round only if it took a byte.
func (r repeat) emitTurns(l *list, next int) int {
	head := l.add(instruction{kind: kindSplit, other: next})
	turn := l.add(instruction{kind: kindTurn, next: head, depth: l.depth})
	l.depth++
	l.deepest = max(l.deepest, l.depth)
	body := r.inner.emit(l, turn)
	l.depth--
	l.code[head].next = body
	return head
}
