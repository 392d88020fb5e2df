package model_test

import (
	"reflect"
	"slices"
	"strconv"
	"testing"

	"netverify/api"
	"netverify/model"
)

// visit calls f with all slices, numbers, texts and truth values in v, and with
// the place of each one, which begins with place.
func visit(v reflect.Value, place string, f func(v reflect.Value, place string)) {
	if v.Kind() != reflect.Struct {
		f(v, place)
	}
	switch v.Kind() {
	case reflect.Struct:
		for i := range v.NumField() {
			visit(v.Field(i), place+"."+v.Type().Field(i).Name, f)
		}
	case reflect.Slice:
		for i := range v.Len() {
			visit(v.Index(i), place+"["+strconv.Itoa(i)+"]", f)
		}
	}
}

// other is a value that differs from v.
func other(v reflect.Value) reflect.Value {
	x := reflect.New(v.Type()).Elem()
	switch v.Kind() {
	case reflect.Int:
		x.SetInt(v.Int() + 1)
	case reflect.Uint32:
		x.SetUint(v.Uint() ^ 1<<31)
	case reflect.String:
		x.SetString(v.String() + "x")
	case reflect.Bool:
		x.SetBool(!v.Bool())
	default:
		panic("a leaf of kind " + v.Kind().String())
	}
	return x
}

// others are slices that differ from v: by an element less or more, or by the
// order of the elements.
func others(v reflect.Value) []reflect.Value {
	n := v.Len()
	l := []reflect.Value{
		reflect.Append(v.Slice3(0, n, n), reflect.Zero(v.Type().Elem())),
	}
	if n > 0 {
		l = append(l,
			v.Slice(0, n-1),
			v.Slice(1, n),
			reflect.Zero(v.Type()),
			reflect.Append(v.Slice3(0, n, n), v.Index(n-1)),
			reflect.AppendSlice(v.Slice3(1, n, n), v.Slice(0, 1)))
	}
	return slices.DeleteFunc(l, func(x reflect.Value) bool {
		return reflect.DeepEqual(x.Interface(), v.Interface())
	})
}

// visitChanges calls f while one thing in v is changed, for each one in turn.
func visitChanges(v reflect.Value, f func(place string)) {
	visit(v, "", func(v reflect.Value, place string) {
		var l []reflect.Value
		if v.Kind() == reflect.Slice {
			l = others(v)
		} else {
			l = append(l, other(v))
		}
		before := reflect.New(v.Type()).Elem()
		before.Set(v)
		for _, x := range l {
			v.Set(x)
			f(place)
			v.Set(before)
		}
	})
}

// P503

func TestSameOfEqualRouters(t *testing.T) {
	for i, r := range []func() api.Router{full, largest, func() api.Router { return api.Router{} }} {
		a, b := r(), r()
		if !model.Same(a, b) || !model.Same(a, a) {
			t.Errorf("Same of equal routers %d is false", i)
		}
		if !reflect.DeepEqual(a, r()) || !reflect.DeepEqual(b, r()) {
			t.Errorf("Same changed router %d", i)
		}
	}
}

func TestSameLooksAtEveryField(t *testing.T) {
	a, b := full(), full()
	count := 0
	visitChanges(reflect.ValueOf(&a).Elem(), func(place string) {
		count++
		if model.Same(a, b) || model.Same(b, a) || !model.Same(a, a) {
			t.Errorf("Same is wrong after a change of %s", place)
		}
	})
	if count < 400 {
		t.Errorf("only %d changes", count)
	}
	if !model.Same(a, b) {
		t.Error("a change was not undone")
	}
}

func TestSameNetworkLooksAtEveryField(t *testing.T) {
	two := func() api.Network { return api.Network{Routers: []api.Router{full(), largest()}} }
	a, b := two(), two()
	if !model.SameNetwork(a, b) {
		t.Error("SameNetwork of equal networks is false")
	}
	visitChanges(reflect.ValueOf(&a).Elem(), func(place string) {
		if model.SameNetwork(a, b) || model.SameNetwork(b, a) || !model.SameNetwork(a, a) {
			t.Errorf("SameNetwork is wrong after a change of %s", place)
		}
	})
	if !reflect.DeepEqual(a, two()) || !reflect.DeepEqual(b, two()) {
		t.Error("SameNetwork changed a network")
	}
}

// slicesIn are the places of all slices in r.
func slicesIn(r *api.Router) (l []reflect.Value, places []string) {
	visit(reflect.ValueOf(r).Elem(), "", func(v reflect.Value, place string) {
		if v.Kind() == reflect.Slice {
			l, places = append(l, v), append(places, place)
		}
	})
	return l, places
}

func TestNilAndEmptyListsAreTheSame(t *testing.T) {
	_, places := slicesIn(new(full()))
	if len(places) < 20 {
		t.Errorf("only %d slices", len(places))
	}
	for i, place := range places {
		a, b := full(), full()
		x, _ := slicesIn(&a)
		y, _ := slicesIn(&b)
		x[i].Set(reflect.Zero(x[i].Type()))
		y[i].Set(reflect.MakeSlice(y[i].Type(), 0, 0))
		if !model.Same(a, b) || !model.Same(b, a) {
			t.Errorf("Same of nil and empty %s is false", place)
		}
		m, n := api.Network{Routers: []api.Router{a}}, api.Network{Routers: []api.Router{b}}
		if !model.SameNetwork(m, n) || !model.SameNetwork(n, m) {
			t.Errorf("SameNetwork of nil and empty %s is false", place)
		}
	}
	if !model.SameNetwork(api.Network{}, api.Network{Routers: []api.Router{}}) {
		t.Error("SameNetwork of no routers is false")
	}
}

// Nothing has to be valid.
func TestSameOfRoutersThatAreNotValid(t *testing.T) {
	for _, g := range groups() {
		for _, c := range g.changes {
			a, b := full(), full()
			c.do(&a, 1)
			c.do(&b, 1)
			if !model.Same(a, b) {
				t.Errorf("Same of two routers with %s of %s is false", c.what, g.what)
			}
			if c.want != api.OK && (model.Same(a, full()) || model.Same(full(), a)) {
				t.Errorf("Same of a router with %s of %s and one without is true", c.what, g.what)
			}
		}
	}
}
