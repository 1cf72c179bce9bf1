package ram

// Fork returns a copy of r; neither of them takes part in what is written to the other one.
func (r *Ram) Fork() *Ram {
	if r == nil {
		return nil
	}
	written := make(map[uint64]*page, len(r.written))
	for number, p := range r.written {
		own := *p
		written[number] = &own
	}
	return &Ram{r.count, written}
}

// Same reports whether both memories have the same number of pages and the same bytes.
func (r *Ram) Same(o *Ram) bool {
	if r == nil || o == nil {
		return r == o
	}
	if r.count != o.count {
		return false
	}
	for number := range uint64(r.count) {
		if !equal(r.written[number], o.written[number]) {
			return false
		}
	}
	return true
}

// equal holds the bytes of two pages against each other; nil is one that was never written.
func equal(p, q *page) bool {
	switch {
	case p == q:
		return true
	case p == nil:
		return *q == page{}
	case q == nil:
		return *p == page{}
	}
	return *p == *q
}
