package base

import (
	"slices"

	"cambium/api"
	"cambium/disk"
	"cambium/roots"
	"cambium/tree"
)

// Tx is a transaction on its way: a view that is written.
type Tx struct {
	View    // of the version in which it began, with all that it has written since
	base    *Base
	horizon uint64
	broken  bool
	done    int    // how many steps of its commit are done
	root    int    // the page of its roots, once they are put
	pieces  []int  // the pages of its pieces, once they are put
	stood   []byte // what stood where its meta was written, once that was begun
}

// Get: a key's value. State, NotFound, Sum, Malformed.
func (t *Tx) Get(name string, key []byte) ([]byte, api.Code) {
	if !t.isOfUse() {
		return nil, api.State
	}
	val, code := t.View.Get(name, key)
	return val, t.tell(code)
}

// Items: items of a tree. State, Sum, Malformed.
func (t *Tx) Items(name string, from, to []byte, most int) ([]api.Item, api.Code) {
	if !t.isOfUse() {
		return nil, api.State
	}
	list, code := t.View.Items(name, from, to, most)
	return list, t.tell(code)
}

// Count: how many items a tree has.
func (t *Tx) Count(name string) int {
	if !t.isOfUse() {
		return 0
	}
	return t.View.Count(name)
}

// Put: an item more, or in place of another one. State, Arg, Limit, Full, Sum, Malformed.
func (t *Tx) Put(name string, key, val []byte) (bool, api.Code) {
	if !t.mayWrite() {
		return false, api.State
	}
	r, ok := roots.Find(t.roots, name)
	if !ok {
		r.Name = name
		// No tree is made, but whether one may be is known, as a root without items may be whenever one with some may.
		if _, code := roots.With(t.roots, r); code != api.OK {
			return false, code
		}
	}
	page, was, code := tree.Put(t.pager, r.Page, key, val)
	if code != api.OK {
		return false, t.tell(code)
	}
	r.Page = page
	if !was {
		r.Count++
	}
	if code := t.setRoot(r); code != api.OK {
		return false, t.tell(code)
	}
	return was, api.OK
}

// Delete: an item less. State, NotFound, Full, Sum, Malformed.
func (t *Tx) Delete(name string, key []byte) api.Code {
	if !t.mayWrite() {
		return api.State
	}
	r, ok := roots.Find(t.roots, name)
	if !ok {
		return api.NotFound
	}
	page, code := tree.Delete(t.pager, r.Page, key)
	if code != api.OK {
		return t.tell(code)
	}
	r.Page = page
	r.Count--
	return t.tell(t.setRoot(r))
}

// Drop: a tree has no items. State, NotFound, Sum, Malformed.
func (t *Tx) Drop(name string) api.Code {
	if !t.mayWrite() {
		return api.State
	}
	r, ok := roots.Find(t.roots, name)
	if !ok {
		return api.NotFound
	}
	if code := tree.Drop(t.pager, r.Page); code != api.OK {
		return t.tell(code)
	}
	t.roots = roots.Without(t.roots, name)
	return api.OK
}

// Trim: pages at the end that may be used anew aren't there. State.
func (t *Tx) Trim() (int, api.Code) {
	if !t.mayWrite() {
		return 0, api.State
	}
	return t.pager.Pool().Trim(t.horizon), api.OK
}

// Abort: nothing has changed.
func (t *Tx) Abort() {
	if t.isAtEnd() {
		return
	}
	t.base.tx = nil
	t.takeMetaBack()
}

// next: the number of the version that the transaction makes.
func (t *Tx) next() uint64 { return t.version + 1 }

// isAtEnd: whether the transaction was committed or aborted.
func (t *Tx) isAtEnd() bool { return t.base.tx != t }

// isOfUse: whether the transaction is neither broken nor at its end.
func (t *Tx) isOfUse() bool { return !t.broken && !t.isAtEnd() }

// mayWrite: whether the transaction may be written: what comes behind the first step of its commit would be told by none of its pages.
func (t *Tx) mayWrite() bool { return t.isOfUse() && t.done == 0 }

// tell: the code that a call tells, behind which the transaction may be broken.
func (t *Tx) tell(code api.Code) api.Code {
	switch code {
	case api.Full, api.Sum, api.Malformed:
		t.broken = true
	}
	return code
}

// setRoot: a tree has another root; none, if it has no items any more. Malformed.
func (t *Tx) setRoot(r api.Root) api.Code {
	if r.Page == 0 {
		t.roots = roots.Without(t.roots, r.Name)
		return api.OK
	}
	list, code := roots.With(t.roots, r)
	if code != api.OK {
		// It told of more or fewer items than its tree had, so that now it would tell what may not be.
		return api.Malformed
	}
	t.roots = list
	return api.OK
}

// takeMetaBack: a meta that was written, and waits, isn't seen any more, nor by any that open the disk behind a loss of power.
func (t *Tx) takeMetaBack() {
	b := t.base
	if t.stood == nil || b.lost || !metaWaits(b.disk) {
		return
	}
	if b.disk.Write(t.metaPlace(), t.stood) != api.OK || b.disk.Sync() != api.OK {
		b.lost = true
	}
}

// metaWaits: whether a meta that was written to a disk isn't safe yet.
func metaWaits(d *disk.Disk) bool {
	return slices.ContainsFunc(d.Waiting(), func(no int) bool { return no < metas })
}
