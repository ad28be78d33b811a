package base

import (
	"cambium/api"
	"cambium/pager"
	"cambium/roots"
	"cambium/scan"
	"cambium/tree"
)

// View is a version to be read.
type View struct {
	version uint64
	roots   []api.Root // changed by no one: another list comes in its place
	pager   *pager.Pager
}

// Version: the view's version.
func (v *View) Version() uint64 { return v.version }

// Get: a key's value. NotFound, Sum, Malformed.
func (v *View) Get(name string, key []byte) ([]byte, api.Code) {
	return tree.Get(v.pager, v.root(name).Page, key)
}

// Items: items of a tree. Sum, Malformed.
func (v *View) Items(name string, from, to []byte, most int) ([]api.Item, api.Code) {
	return scan.Items(v.pager, v.root(name).Page, from, to, most)
}

// Count: how many items a tree has.
func (v *View) Count(name string) int { return v.root(name).Count }

// root: the root of a name; of a tree that there isn't one without items.
func (v *View) root(name string) api.Root {
	r, _ := roots.Find(v.roots, name)
	return r
}
