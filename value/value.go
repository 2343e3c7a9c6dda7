// Package value: the JSON values of this program, how they are read from a text and written as canonical JSON.
package value

import (
	"iter"
	"maps"
	"slices"
)

// Value is a JSON value: Null, Bool, Number, String, Array or Object. The method keeps other types out, so that a type switch over these six is whole.
type Value interface {
	isValue()
}

type (
	Null   struct{}
	Bool   bool
	Number int64
	String string
	Array  []Value
	Object map[string]Value
)

func (Null) isValue()   {}
func (Bool) isValue()   {}
func (Number) isValue() {}
func (String) isValue() {}
func (Array) isValue()  {}
func (Object) isValue() {}

// Members goes through the members in the order of the bytes of their keys: a map's own order must never be seen.
func (o Object) Members() iter.Seq2[string, Value] {
	return func(yield func(string, Value) bool) {
		for _, key := range slices.Sorted(maps.Keys(o)) {
			if !yield(key, o[key]) {
				return
			}
		}
	}
}

// Child is the object that stands under key, or an empty one where none stands there.
func (o Object) Child(key string) Object {
	if child, ok := o[key].(Object); ok {
		return child
	}
	return Object{}
}

// With is a copy in which v stands under key.
func (o Object) With(key string, v Value) Object {
	grown := make(Object, len(o)+1)
	maps.Copy(grown, o)
	grown[key] = v
	return grown
}

// Without is a copy that lacks these keys.
func (o Object) Without(keys ...string) Object {
	rest := maps.Clone(o)
	for _, key := range keys {
		delete(rest, key)
	}
	return rest
}
