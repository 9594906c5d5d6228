package item

import "slices"

// maxAnswer is the greatest number of items in one answer for which the document promises anything.
const maxAnswer = 1<<31 - 1

// place is where a list lies in memory. Slices can make a list contain itself; that it comes again is seen by its
// place alone.
type place struct {
	first *Item
	n     int
}

// placeOf returns the place of a list that is not empty.
func placeOf(l []Item) place {
	return place{&l[0], len(l)}
}

// known is what is known of a list.
type known struct {
	endless bool   // whether it leads to a list that contains itself; true until it is known to be false
	items   uint64 // how many it has, on all levels but those of endless lists; 0 until they are counted
	copied  []Item // its copy, if it is copied once only
}

// copier copies a list on every level. It has a stack of its own instead of calling itself, because a list may have
// more levels than calls have room for.
type copier struct {
	lists map[place]*known
	stack [][]Item
	total uint64 // the number of items of the whole copy
}

// copyList returns a copy of l that shares no memory with l, on any level. No two lists of the copy share any
// either, except where it cannot be otherwise: a list that contains itself is copied once, and so is every list if
// the copy would be too great.
func copyList(l []Item) []Item {
	if len(l) == 0 {
		return nil
	}
	c := copier{lists: map[place]*known{}}
	c.count(l)
	own := c.copyOf(l)
	for len(c.stack) > 0 {
		list := c.pop()
		for i, x := range list {
			list[i].L = c.copyOf(x.L)
		}
	}
	return own
}

// push puts l on the stack.
func (c *copier) push(l []Item) {
	c.stack = append(c.stack, l)
}

// pop takes the top of the stack.
func (c *copier) pop() []Item {
	last := len(c.stack) - 1
	top := c.stack[last]
	c.stack = c.stack[:last]
	return top
}

// count counts the items of l, of all lists in it, and of the whole copy.
func (c *copier) count(l []Item) {
	c.push(l)
	for len(c.stack) > 0 {
		top := c.stack[len(c.stack)-1]
		if c.lists[placeOf(top)] == nil {
			c.enter(top)
		} else {
			c.leave(c.pop())
		}
	}
	if k := c.lists[placeOf(l)]; !k.endless {
		c.total = k.items
	}
}

// enter puts the lists in l on top of l, so that they are counted ahead of it.
func (c *copier) enter(l []Item) {
	c.lists[placeOf(l)] = &known{endless: true}
	for _, x := range l {
		if len(x.L) > 0 && c.lists[placeOf(x.L)] == nil {
			c.push(x.L)
		}
	}
}

// leave counts the items of l, after those of the lists in it. One of them that is not counted yet lies below l on
// the stack and contains it.
func (c *copier) leave(l []Item) {
	k := c.lists[placeOf(l)]
	if k.items > 0 {
		return
	}
	items, endless := uint64(len(l)), false
	for _, x := range l {
		if len(x.L) == 0 {
			continue
		}
		if inner := c.lists[placeOf(x.L)]; inner.endless {
			endless = true
		} else {
			items += inner.items
		}
	}
	// No more than needed to see that they are too many, so that no sum wraps round.
	k.items, k.endless = min(items, maxAnswer+1), endless
	if endless {
		c.total += k.items
	}
}

// copyOf returns the copy of l, and puts it on the stack as long as the lists in it are still those of l.
func (c *copier) copyOf(l []Item) []Item {
	if len(l) == 0 {
		return nil
	}
	k := c.lists[placeOf(l)]
	if k.copied != nil {
		return k.copied
	}
	own := slices.Clone(l)
	if k.endless || c.total > maxAnswer {
		k.copied = own
	}
	c.push(own)
	return own
}
