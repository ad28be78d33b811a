package base

import (
	"cambium/api"
	"cambium/meta"
	"cambium/pool"
	"cambium/roots"
)

// Step: a commit's next step; whether it was the last. State, Full, Down.
func (t *Tx) Step() (bool, api.Code) {
	if !t.isOfUse() {
		return false, api.State
	}
	if t.base.lost {
		return false, api.Down
	}
	steps := t.steps()
	if code := steps[t.done](); code != api.OK {
		t.base.lost = code == api.Down
		return false, t.tell(code)
	}
	t.done++
	return t.done == len(steps), api.OK
}

// Commit: all steps that are left. State, Full, Down.
func (t *Tx) Commit() api.Code {
	for {
		last, code := t.Step()
		if last || code != api.OK {
			return code
		}
	}
}

// steps: those of a commit.
func (t *Tx) steps() []func() api.Code {
	return []func() api.Code{t.writePages, t.base.disk.Sync, t.writeMeta, t.end}
}

// writePages: all pages of the new version come to the disk. Full, Down.
func (t *Tx) writePages() api.Code {
	t.dropOld()
	if code := t.putRoots(); code != api.OK {
		return code
	}
	if code := t.putPieces(); code != api.OK {
		return code
	}
	// A disk may have been opened in the midst of another commit. Were that one's meta lost, then a version that uses pages which are written over here would be the newest again.
	if metaWaits(t.base.disk) {
		if code := t.base.disk.Sync(); code != api.OK {
			return code
		}
	}
	return t.pager.Flush()
}

// dropOld: the pages that told of the version that was aren't needed any more.
func (t *Tx) dropOld() {
	if t.base.root != 0 {
		t.pager.Drop(t.base.root)
	}
	for _, no := range t.base.pieces {
		t.pager.Drop(no)
	}
}

// putRoots: the roots' page, if there are roots. Full.
func (t *Tx) putRoots() api.Code {
	if len(t.roots) == 0 {
		return api.OK
	}
	no, code := t.pager.Put(roots.Pay(t.roots))
	t.root = no
	return code
}

// putPieces: the pieces' pages, if there are freed ones. Full.
func (t *Tx) putPieces() api.Code {
	l := t.pager.Pool()
	if len(l.List()) == 0 {
		return api.OK
	}
	for range pool.Pieces(len(l.List())) {
		no, code := t.pager.Put(nil)
		if code != api.OK {
			return code
		}
		t.pieces = append(t.pieces, no)
	}
	// Only now it is known which ones are freed, as the pieces' own pages may have been.
	left := l.List()
	for i, no := range t.pieces {
		piece := left[:min(len(left), api.PerPage)]
		left = left[len(piece):]
		// A page that was just put can be set, and such a piece's bytes fit into it.
		t.pager.Set(no, pool.Pay(piece, firstOf(t.pieces[i+1:])))
	}
	return api.OK
}

// writeMeta: the meta of the new version comes to its place. Down; Arg, if there may be no such version.
func (t *Tx) writeMeta() api.Code {
	m := api.Meta{Gen: t.next(), High: t.pager.Pool().High(), Root: t.root, Free: firstOf(t.pieces)}
	// Each disk with a base has this page.
	t.stood, _ = t.base.disk.Read(t.metaPlace())
	return meta.Write(t.base.disk, m)
}

// metaPlace: the page at which the new version's meta stands.
func (t *Tx) metaPlace() int { return int(t.next() % metas) }

// end: the base is at the new version, once its meta is safe. Down.
func (t *Tx) end() api.Code {
	b := t.base
	if code := b.disk.Sync(); code != api.OK {
		return code
	}
	b.view = View{t.next(), t.roots, b.view.pager}
	b.root, b.pieces, b.pool = t.root, t.pieces, t.pager.Pool()
	b.tx = nil
	return api.OK
}

// firstOf: the first of these pages; 0, if there is none.
func firstOf(pages []int) int {
	if len(pages) == 0 {
		return 0
	}
	return pages[0]
}
