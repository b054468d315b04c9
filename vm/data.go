package vm

import (
	"slices"
	"strings"

	"plenum/api"
	"plenum/key"
)

// data is what a run may touch, the items of the store in key order, and what the run has changed: nil, where it deleted.
type data struct {
	want    api.Want
	items   []api.Item
	changes map[string]api.Value
}

// get returns the value that the run sees for a key; nil, if there is none.
func (d *data) get(k api.Value) (api.Value, api.Errno) {
	if e := d.mayTouch(k, Reads); e != api.OK {
		return api.Value{}, e
	}
	if v, ok := d.changes[k.S]; ok {
		return v, api.OK
	}
	if i, ok := d.find(k.S); ok {
		return d.items[i].Val, api.OK
	}
	return api.Value{}, api.OK
}

func (d *data) put(k, v api.Value) api.Errno {
	if e := d.mayTouch(k, Writes); e != api.OK {
		return e
	}
	if v.Kind == api.KindNil {
		return api.ErrType
	}
	return d.touch(k.S, v)
}

func (d *data) remove(k api.Value) api.Errno {
	if e := d.mayTouch(k, Writes); e != api.OK {
		return e
	}
	return d.touch(k.S, api.Value{})
}

// scan returns the first most items that the run sees under a pattern.
func (d *data) scan(pattern api.Value, most int) ([]api.Item, api.Errno) {
	switch p := pattern.S; {
	case pattern.Kind != api.KindText:
		return nil, api.ErrType
	case !key.Pattern(p):
		return nil, api.ErrForm
	case !anyPrefix(d.want.Reads, p) && !anyPrefix(d.want.Writes, p):
		return nil, api.ErrDeny
	}
	l := d.unchanged(pattern.S, most)
	for k, v := range d.changes {
		if v.Kind != api.KindNil && strings.HasPrefix(k, pattern.S) {
			l = append(l, api.Item{Key: k, Val: v})
		}
	}
	slices.SortFunc(l, func(a, b api.Item) int { return strings.Compare(a.Key, b.Key) })
	return l[:min(most, len(l))], api.OK
}

// edits returns what the run has changed, in key order.
func (d *data) edits() []api.Edit {
	var l []api.Edit
	for k, v := range d.changes {
		l = append(l, api.Edit{Key: k, Val: v})
	}
	slices.SortFunc(l, func(a, b api.Edit) int { return strings.Compare(a.Key, b.Key) })
	return l
}

// mayTouch returns the error of a value that is no key such as may allows.
func (d *data) mayTouch(k api.Value, may func(api.Want, string) bool) api.Errno {
	switch {
	case k.Kind != api.KindText:
		return api.ErrType
	case !key.Is(k.S):
		return api.ErrForm
	case !may(d.want, k.S):
		return api.ErrDeny
	}
	return api.OK
}

func (d *data) touch(k string, v api.Value) api.Errno {
	if _, ok := d.changes[k]; !ok && len(d.changes) == api.MaxEdits {
		return api.ErrFull
	}
	d.changes[k] = v
	return api.OK
}

// unchanged returns the first most items of the store under a pattern that the run has not changed.
func (d *data) unchanged(pattern string, most int) []api.Item {
	var l []api.Item
	i, _ := d.find(pattern)
	for ; i < len(d.items) && len(l) < most && strings.HasPrefix(d.items[i].Key, pattern); i++ {
		if _, ok := d.changes[d.items[i].Key]; !ok {
			l = append(l, d.items[i])
		}
	}
	return l
}

// find returns the place of the first item of the store whose key is not less than k, and whether it is k.
func (d *data) find(k string) (int, bool) {
	return slices.BinarySearchFunc(d.items, k, func(x api.Item, k string) int { return strings.Compare(x.Key, k) })
}

// anyPrefix reports whether a pattern of l is a prefix of s.
func anyPrefix(l []string, s string) bool {
	return slices.ContainsFunc(l, func(p string) bool { return strings.HasPrefix(s, p) })
}
