package ir_test

import (
	"cmp"
	"reflect"
	"slices"
	"testing"
	"unsafe"
)

// region is the memory of a list, with its spare capacity, or of a text.
type region struct {
	first, size uintptr
	list        bool
}

// regions returns the memory that a value consists of.
func regions(v reflect.Value) []region {
	var all []region
	for _, list := range lists(v) {
		if list.Cap() > 0 {
			all = append(all, region{list.Pointer(), uintptr(list.Cap()) * list.Type().Elem().Size(), true})
		}
	}
	for _, field := range fields(v) {
		if field.Kind() == reflect.String && field.Len() > 0 {
			text := field.String()
			all = append(all, region{uintptr(unsafe.Pointer(unsafe.StringData(text))), uintptr(len(text)), false})
		}
	}
	return all
}

// overlaps reports whether two regions of a list have memory in common, if keep says so of both.
func overlaps(all []region, both func(a, b region) bool) bool {
	slices.SortFunc(all, func(a, b region) int { return cmp.Compare(a.first, b.first) })
	for i, a := range all {
		for _, b := range all[i+1:] {
			if b.first >= a.first+a.size {
				break
			}
			if both(a, b) {
				return true
			}
		}
	}
	return false
}

// checkNew reports a result in which two lists share memory, or which shares memory with an argument.
func checkNew(t *testing.T, result any, args ...any) {
	t.Helper()
	own := regions(reflect.ValueOf(result))
	if overlaps(slices.Clone(own), func(a, b region) bool { return a.list && b.list }) {
		t.Fatalf("two lists of %+v share memory", result)
	}
	for _, arg := range args {
		all := regions(reflect.ValueOf(arg))
		for i := range own {
			own[i].list = true
		}
		for i := range all {
			all[i].list = false
		}
		if overlaps(append(all, own...), func(a, b region) bool { return a.list != b.list }) {
			t.Fatalf("%+v shares memory with %+v", result, arg)
		}
	}
}

// stuff gives something to all fields of a value.
func stuff(v reflect.Value) {
	for _, field := range fields(v) {
		switch field.Kind() {
		case reflect.Int:
			field.SetInt(77)
		case reflect.Uint64:
			field.SetUint(77)
		case reflect.String:
			field.SetString("spare")
		case reflect.Bool:
			field.SetBool(true)
		}
	}
}

// spoil overwrites all that a value consists of, up to the capacity of its lists.
func spoil(v reflect.Value) {
	for _, list := range lists(v) {
		all := list.Slice(0, list.Cap())
		for i := range all.Len() {
			if all.Index(i).Kind() != reflect.Slice {
				stuff(all.Index(i))
			}
		}
	}
}
