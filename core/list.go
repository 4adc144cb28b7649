package core

import (
	"cmp"
	"slices"

	"trivet/api"
)

// The orders in which a core's lists stand; two that are at one place can't both be there.

func byName(a, b api.Queue) int {
	return cmp.Compare(a.Name, b.Name)
}

func byPattern(a, b api.Bind) int {
	return cmp.Or(cmp.Compare(a.Queue, b.Queue), cmp.Compare(a.Pattern, b.Pattern))
}

func byNumber(a, b api.Sub) int {
	return cmp.Or(cmp.Compare(a.Conn, b.Conn), cmp.Compare(a.Sub, b.Sub))
}

func byTopic(a, b api.Msg) int {
	return cmp.Compare(a.Topic, b.Topic)
}

func byClient(a, b api.Client) int {
	return cmp.Compare(a.Name, b.Name)
}

// canBe: whether a list has no more than most, rises in its order, and each in it is good.
func canBe[E any](list []E, most int, order func(a, b E) int, good func(E) bool) bool {
	if len(list) > most {
		return false
	}
	for at, x := range list {
		if at > 0 && order(list[at-1], x) >= 0 || !good(x) {
			return false
		}
	}
	return true
}

// find: where in a list in order stands what is at x's place, or would stand; false: it isn't there.
func find[E any](list []E, x E, order func(a, b E) int) (int, bool) {
	return slices.BinarySearchFunc(list, x, order)
}

// has: whether something stands at x's place in a list in order.
func has[E any](list []E, x E, order func(a, b E) int) bool {
	_, there := find(list, x, order)
	return there
}

// enter: a list in order with x at its place, in the place of what stood there; gives up with ErrRoom, if it would be one beyond most. The list is used up.
func enter[E any](list []E, x E, order func(a, b E) int, most int) []E {
	at, there := find(list, x, order)
	if there {
		list[at] = x
		return list
	}
	insist(len(list) < most, api.ErrRoom)
	return slices.Insert(list, at, x)
}

// leave: a list in order without what stands at x's place, if something does. The list is used up.
func leave[E any](list []E, x E, order func(a, b E) int) []E {
	at, there := find(list, x, order)
	if !there {
		return list
	}
	return slices.Delete(list, at, at+1)
}

// each: what a function makes of each of a list, in new memory.
func each[E any](list []E, turned func(E) E) []E {
	var all []E
	for _, x := range list {
		all = append(all, turned(x))
	}
	return all
}

// copyList: a list in new memory; what is in it must have no lists of its own.
func copyList[E any](list []E) []E {
	return append([]E(nil), list...)
}
