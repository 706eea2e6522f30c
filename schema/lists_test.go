package schema

import (
	"reflect"
	"testing"

	"clerestory/api"
)

// roomy is a value with all lists in new memory, none of them nil, with room to spare behind each.
func roomy[T any](x T) T {
	spread(reflect.ValueOf(&x).Elem(), 2)
	return x
}

func spread(v reflect.Value, spare int) {
	switch v.Kind() {
	case reflect.Struct:
		for i := range v.NumField() {
			spread(v.Field(i), spare)
		}
	case reflect.Slice:
		list := reflect.MakeSlice(v.Type(), v.Len(), v.Len()+spare)
		reflect.Copy(list, v)
		v.Set(list)
		for i := range list.Len() {
			spread(list.Index(i), spare)
		}
	}
}

// whole is a value in new memory, with what stands in the spare room of its lists.
func whole[T any](x T) T {
	widen(reflect.ValueOf(&x).Elem())
	return x
}

func widen(v reflect.Value) {
	switch v.Kind() {
	case reflect.Struct:
		for i := range v.NumField() {
			widen(v.Field(i))
		}
	case reflect.Slice:
		list := reflect.MakeSlice(v.Type(), v.Cap(), v.Cap())
		reflect.Copy(list, v.Slice(0, v.Cap()))
		v.Set(list)
		for i := range list.Len() {
			widen(list.Index(i))
		}
	}
}

// alike tells whether two values are, where an empty list is none.
func alike[T any](a, b T) bool {
	return reflect.DeepEqual(roomy(a), roomy(b))
}

// span is where a list lies, its spare room too.
type span struct{ from, to uintptr }

func spans(v reflect.Value) []span {
	var all []span
	switch v.Kind() {
	case reflect.Struct:
		for i := range v.NumField() {
			all = append(all, spans(v.Field(i))...)
		}
	case reflect.Slice:
		if v.Cap() > 0 {
			all = append(all, span{v.Pointer(), v.Pointer() + uintptr(v.Cap())*v.Type().Elem().Size()})
		}
		for i := range v.Len() {
			all = append(all, spans(v.Index(i))...)
		}
	}
	return all
}

// shares tells whether two lists of an answer share memory, or one of them some with what was handed in.
func shares(answer any, handed ...any) bool {
	mine := spans(reflect.ValueOf(answer))
	var theirs []span
	for _, x := range handed {
		theirs = append(theirs, spans(reflect.ValueOf(x))...)
	}
	for i, a := range mine {
		for _, b := range append(theirs, mine[:i]...) {
			if a.from < b.to && b.from < a.to {
				return true
			}
		}
	}
	return false
}

func TestSharesTells(t *testing.T) {
	list := make([]string, 4)
	a, b := api.View{Cols: list[:2]}, api.View{Cols: list[2:]}
	if !shares(a, api.View{Cols: list[1:]}) || !shares(a, b) || !shares([]api.View{a, b}) { // a has room to spare, in which b is
		t.Error("shared")
	}
	a.Cols = list[:2:2]
	if shares(a, b) || shares([]api.View{a, b}) || shares(a, []api.View{}) {
		t.Error("not shared")
	}
}

// turns calls f with all that v is if one thing in it is another one, or a list has one more, one less, or two the other way round.
func turns(v reflect.Value, f func()) {
	was := reflect.New(v.Type()).Elem()
	was.Set(v)
	try := func(x any) {
		v.Set(reflect.ValueOf(x).Convert(v.Type()))
		f()
		v.Set(was)
	}
	switch v.Kind() {
	case reflect.String:
		for _, s := range awkward() {
			try(s)
		}
	case reflect.Int:
		for _, n := range []int{-1 << 63, -1, 0, 1, 2, 3, 4, 5, 6, 7, 1<<40 - 1, 1 << 40, 1<<40 + 1, 1<<63 - 1} {
			try(n)
		}
	case reflect.Struct:
		for i := range v.NumField() {
			turns(v.Field(i), f)
		}
	case reflect.Slice:
		for i := range v.Len() {
			turns(v.Index(i), f)
		}
		for _, other := range otherLists(v) {
			try(other.Interface())
		}
	}
}

// otherLists are a list with one more or less, or with two the other way round.
func otherLists(v reflect.Value) []reflect.Value {
	fresh := func(parts ...reflect.Value) reflect.Value {
		list := reflect.Zero(v.Type())
		for _, part := range parts {
			list = reflect.AppendSlice(list, part)
		}
		return list
	}
	n := v.Len()
	none := reflect.MakeSlice(v.Type(), 1, 1)
	all := []reflect.Value{fresh(v, none), fresh(none, v)}
	for i := range n {
		all = append(all, fresh(v.Slice(0, i), v.Slice(i+1, n)), fresh(v, v.Slice(i, i+1)), fresh(v.Slice(0, i), v.Slice(i, n), v))
		for j := range i {
			all = append(all, fresh(v.Slice(0, j), v.Slice(i, i+1), v.Slice(j+1, i), v.Slice(j, j+1), v.Slice(i+1, n)))
		}
	}
	return all
}
