package typeterm

import (
	"telpher/api"
)

// bodiesAround returns the number of bodies around Args[i] of t, given the number around t.
func bodiesAround(t api.Type, i, bodies int) int {
	if t.Kind == api.KindExists && i == 1 {
		return bodies + 1
	}
	return bodies
}

// isFree reports whether t is an occurrence of a free variable within so many bodies.
func isFree(t api.Type, bodies int) bool {
	return t.Kind == api.KindVar && t.Index >= bodies
}

// FreeVars returns the indices of the free variables of t in ascending order.
func FreeVars(t api.Type) []int {
	var free sortedSet[int]
	collectFree(t, 0, &free)
	return free.list()
}

func collectFree(t api.Type, bodies int, free *sortedSet[int]) {
	if isFree(t, bodies) {
		free.add(t.Index - bodies)
	}
	for i, arg := range t.Args {
		collectFree(arg, bodiesAround(t, i, bodies), free)
	}
}

// Names returns the names of the nominal types in t in ascending order.
func Names(t api.Type) []string {
	var names sortedSet[string]
	collectNames(t, &names)
	return names.list()
}

func collectNames(t api.Type, names *sortedSet[string]) {
	if t.Kind == api.KindNamed {
		names.add(t.Name)
	}
	for _, arg := range t.Args {
		collectNames(arg, names)
	}
}

// IsPlain reports whether t may be an argument of a nominal type.
func IsPlain(t api.Type) bool {
	switch t.Kind {
	case api.KindVar:
		return true
	case api.KindNamed:
		// A closed nominal type needs no case of its own: its Args are closed, hence plain.
		return arePlain(t.Args)
	}
	return isClosed(t, 0)
}

func arePlain(args []api.Type) bool {
	for _, arg := range args {
		if !IsPlain(arg) {
			return false
		}
	}
	return true
}

// isClosed reports whether no variable is free in t within so many bodies.
func isClosed(t api.Type, bodies int) bool {
	if isFree(t, bodies) {
		return false
	}
	for i, arg := range t.Args {
		if !isClosed(arg, bodiesAround(t, i, bodies)) {
			return false
		}
	}
	return true
}
