package btree

import (
	"cmp"
	"slices"
	"strings"

	"croft/word"
)

// The kinds of a tree's pages.
const (
	kindLeaf = 2
	kindFork = 3
)

// How many bytes the numbers of a page's room have.
const (
	countSize = 2 // how many pairs there are
	keySize   = 8 // a pair's key
	valSize   = 8 // where the key leads, in a leaf
	pageSize  = 4 // the number of a page below a fork
)

// shape is how many pairs a kind of pages has, and how long the numbers are to
// which these lead. The topmost page may have fewer than the least.
type shape struct {
	least, most int
	size        int
}

// node is a page of a tree.
type node struct {
	no    int
	kind  int
	first int    // of a fork, the page below its first key
	pairs []Pair // by rising keys; of a fork, each leads to the next page below
}

// shape answers that of the page's kind.
func (n node) shape() shape {
	if n.kind == kindLeaf {
		return shape{15, 30, valSize}
	}
	return shape{20, 40, pageSize}
}

// nodeOf answers the page that a kind and a room tell; false, if they are none
// of a leaf or fork.
func nodeOf(no, kind int, room string) (node, bool) {
	if kind != kindLeaf && kind != kindFork {
		return node{}, false
	}
	at := 0
	take := func(size int) uint64 {
		n, _ := word.Get(room, at, size)
		at += size
		return n
	}
	n := node{no: no, kind: kind}
	count := int(take(countSize))
	if count < 1 || count > n.shape().most {
		return node{}, false
	}
	if kind == kindFork {
		n.first = int(take(pageSize))
	}
	for range count {
		key := take(keySize)
		n.pairs = append(n.pairs, Pair{key, take(n.shape().size)})
	}
	if !n.rises() || strings.Trim(room[at:], "\x00") != "" {
		return node{}, false
	}
	return n, true
}

// room answers the page's room, without the bytes 00 behind.
func (n node) room() string {
	var out strings.Builder
	out.WriteString(word.Put(uint64(len(n.pairs)), countSize))
	if n.kind == kindFork {
		out.WriteString(word.Put(uint64(n.first), pageSize))
	}
	for _, x := range n.pairs {
		out.WriteString(word.Put(x.Key, keySize))
		out.WriteString(word.Put(x.Val, n.shape().size))
	}
	return out.String()
}

// rises tells whether each key is greater than the one ahead of it.
func (n node) rises() bool {
	for i := range len(n.pairs) - 1 {
		if n.pairs[i].Key >= n.pairs[i+1].Key {
			return false
		}
	}
	return true
}

// find answers which pair has a key; if none has, at which one it would stand,
// and false.
func (n node) find(key uint64) (int, bool) {
	return slices.BinarySearchFunc(n.pairs, key, func(x Pair, key uint64) int {
		return cmp.Compare(x.Key, key)
	})
}

// put lets a key of a leaf lead somewhere.
func (n *node) put(x Pair) {
	i, found := n.find(x.Key)
	if found {
		n.pairs[i] = x
		return
	}
	n.pairs = slices.Insert(n.pairs, i, x)
}

// turn answers below which page of a fork a key stands: 0 is the first one.
func (n node) turn(key uint64) int {
	i, found := n.find(key)
	if found {
		return i + 1
	}
	return i
}

// below answers the number of the page i below a fork.
func (n node) below(i int) int {
	if i == 0 {
		return n.first
	}
	return int(n.pairs[i-1].Val)
}

// stand tells whether the keys of a page are less than a key, and those of the
// page beside it aren't.
func stand(left node, key uint64, right node) bool {
	i, _ := left.find(key)
	j, _ := right.find(key)
	return i == len(left.pairs) && j == 0
}

// joined answers one page of all that two beside one another have, of the number
// of the left one; key is the one between them in the fork above.
func joined(left node, key uint64, right node) node {
	var between []Pair
	if left.kind == kindFork {
		between = []Pair{{key, uint64(right.first)}}
	}
	left.pairs = slices.Concat(left.pairs, between, right.pairs)
	return left
}

// parted answers the halves of a page, and the key between them in the fork
// above; the right one has the number no.
func (n node) parted(no int) (left node, key uint64, right node) {
	middle := len(n.pairs) / 2
	left, right = n, node{no: no, kind: n.kind}
	left.pairs, right.pairs = n.pairs[:middle], n.pairs[middle:]
	key = right.pairs[0].Key
	if n.kind == kindFork {
		// A fork's key in the middle stands above both, and in neither of them.
		right.first, right.pairs = right.below(1), right.pairs[1:]
	}
	return left, key, right
}
