package btree

import (
	"maps"
	"slices"

	"croft/api"
	"croft/pager"
)

// All answers all pairs, by rising keys; ErrBad, too, if the tree isn't as it
// should be.
func All(p *pager.Pager, root int) ([]Pair, api.Errno) {
	pairs, _, e := tree{p, root}.walk()
	return pairs, e
}

// Pages answers the numbers of all pages that a tree has, rising; the errors of
// All.
func Pages(p *pager.Pager, root int) ([]int, api.Errno) {
	_, met, e := tree{p, root}.walk()
	return slices.Sorted(maps.Keys(met)), e
}

// Deep answers how many pages stand above one another, down to the leaf of the
// least key.
func Deep(p *pager.Pager, root int) (int, api.Errno) {
	way, e := tree{p, root}.way(func(node) int { return 0 })
	return len(way), e
}

// walk goes through a whole tree, and answers its pairs, and how deep each of
// its pages stands, by their numbers; ErrBad, too, if the tree isn't as it should
// be.
func (t tree) walk() ([]Pair, map[int]int, api.Errno) {
	var pairs []Pair
	met := map[int]int{}
	floor := uint64(0) // the next leaf's keys aren't less
	leaves := 0        // how deep they stand, 0 till one is met
	enter := func(leaf node, deep int) api.Errno {
		if leaf.pairs[0].Key < floor || leaves > 0 && leaves != deep {
			return api.ErrBad
		}
		leaves = deep
		pairs = append(pairs, leaf.pairs...)
		return api.OK
	}
	var visit func(no, deep int) api.Errno
	visit = func(no, deep int) api.Errno {
		n, e := t.read(no, deep)
		switch {
		case e != api.OK:
			return e
		case met[no] > 0, deep > 1 && len(n.pairs) < n.shape().least:
			return api.ErrBad
		}
		met[no] = deep
		if n.kind == kindLeaf {
			return enter(n, deep)
		}
		e = visit(n.first, deep+1)
		for i := 0; i < len(n.pairs) && e == api.OK; i++ {
			floor = n.pairs[i].Key
			// Each leaf has a key: the last one that was met stands right below.
			if pairs[len(pairs)-1].Key >= floor {
				return api.ErrBad
			}
			e = visit(n.below(i+1), deep+1)
		}
		return e
	}
	no, e := t.top()
	if e == api.OK && no > 0 {
		e = visit(no, 1)
	}
	if e != api.OK {
		return nil, nil, e
	}
	return pairs, met, api.OK
}
