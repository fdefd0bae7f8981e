package eval

import (
	"reflect"
	"testing"

	"exactchange/api"
)

func con(n int, kids ...api.Value) api.Value { return api.Value{Con: true, N: n, Kids: kids} }

func whole(n int) api.Value { return api.Value{N: n} }

// nested is n values within one another, the innermost a number.
func nested(n, inner int) api.Value {
	v := whole(inner)
	for range n - 1 {
		v = con(1, v)
	}
	return v
}

func wide() api.Value { return con(1, whole(3), con(2, con(0), whole(-4)), con(3)) }

// spoil writes over all that v can reach, spare room too.
func spoil(v *api.Value) {
	for i := range v.Kids[:cap(v.Kids)] {
		spoil(&v.Kids[:cap(v.Kids)][i])
	}
	v.Con, v.N = !v.Con, v.N+77
}

func TestOwnIsACopyOfAll(t *testing.T) {
	given := wide()
	got := Own(given)
	if !reflect.DeepEqual(got, wide()) {
		t.Errorf("%v comes", got)
	}
	spoil(&given)
	if !reflect.DeepEqual(got, wide()) {
		t.Errorf("a copy is changed with what was handed in: %v", got)
	}
	given = wide()
	got = Own(given)
	spoil(&got)
	if !reflect.DeepEqual(given, wide()) {
		t.Errorf("what was handed in is changed with its copy: %v", given)
	}
	if !Same(Own(api.Value{}), api.Value{}) || !Same(Own(api.Value{N: 5, Kids: []api.Value{whole(1)}}), api.Value{N: 5, Kids: []api.Value{whole(1)}}) {
		t.Error("a number has another copy")
	}
}

func TestOwnLeavesSpareRoomAlone(t *testing.T) {
	room := []api.Value{whole(1), whole(2), whole(3)}
	for n := range 3 {
		got := Own(con(1, room[:n]...))
		_ = append(got.Kids, whole(9))
		spoil(&got)
	}
	if !reflect.DeepEqual(room, []api.Value{whole(1), whole(2), whole(3)}) {
		t.Errorf("spare room is changed: %v", room)
	}
}

func TestListsOfACopyAreApart(t *testing.T) {
	one := con(1, whole(5))
	got := Own(con(2, one, one))
	got.Kids[0].Kids[0].N = 6
	if got.Kids[1].Kids[0].N != 5 {
		t.Error("two lists of one copy share their memory")
	}
}

func TestSameIsOfAllWithin(t *testing.T) {
	if !Same(wide(), wide()) || !Same(api.Value{Kids: []api.Value{}}, api.Value{}) {
		t.Error("the same are not the same")
	}
	others := []api.Value{
		{}, whole(1), con(1), con(2, wide().Kids...),
		{N: 1, Kids: wide().Kids},
		con(1, whole(3), con(2, con(0), whole(-4))),
		con(1, whole(3), con(2, con(0), whole(-4)), con(3), con(3)),
		con(1, whole(3), con(3), con(2, con(0), whole(-4))),
		con(1, whole(4), con(2, con(0), whole(-4)), con(3)),
		con(1, whole(3), con(2, con(0), whole(4)), con(3)),
		con(1, whole(3), con(2, whole(0), whole(-4)), con(3)),
		con(1, whole(3), con(2, con(0), whole(-4)), whole(3)),
	}
	for _, o := range others {
		if Same(wide(), o) || Same(o, wide()) {
			t.Errorf("%v is not the same", o)
		}
	}
	for i, a := range others {
		for j, b := range others {
			if Same(a, b) != (i == j) {
				t.Errorf("Same(%v, %v) is %v", a, b, i != j)
			}
		}
	}
}

func TestFewCountsAllWithin(t *testing.T) {
	row := func(n int) []api.Value { return make([]api.Value, n) }
	cases := []struct {
		what string
		v    api.Value
		few  bool
	}{
		{"a number", whole(7), true},
		{"999 in a row", con(0, row(999)...), true},
		{"1000 in a row", con(0, row(1000)...), false},
		{"1000 within one another", nested(1000, 0), true},
		{"1001 within one another", nested(1001, 0), false},
		{"1000 in two rows", con(0, con(0, row(500)...), con(0, row(497)...)), true},
		{"1001 in two rows", con(0, con(0, row(500)...), con(0, row(498)...)), false},
		{"spare room is not counted", con(0, row(2000)[:999]...), true},
	}
	for _, c := range cases {
		if Few(c.v) != c.few {
			t.Errorf("%s: %v", c.what, !c.few)
		}
	}
}

func TestFewEndsWhereOneListStandsAtManyPlaces(t *testing.T) {
	v := whole(0)
	for range 1 << 10 {
		v = con(1, v, v)
	}
	if Few(v) {
		t.Error("2^1024 values are few")
	}
}

func TestDeepValues(t *testing.T) {
	a, b := nested(1<<16, 1), nested(1<<16, 2)
	if !Same(Own(a), a) || Same(a, b) || Few(a) {
		t.Error("deep values are not told from each other")
	}
}

func TestPrimOfNumbers(t *testing.T) {
	const least, most = -1 << 31, 1<<31 - 1
	cases := []struct {
		p, a, b int
		want    api.Value
	}{
		{api.PrimAdd, 5, 2, whole(7)},
		{api.PrimAdd, most, 1, whole(least)},
		{api.PrimAdd, least, -1, whole(most)},
		{api.PrimAdd, least, least, whole(0)},
		{api.PrimSub, 5, 2, whole(3)},
		{api.PrimSub, 2, 5, whole(-3)},
		{api.PrimSub, least, 1, whole(most)},
		{api.PrimSub, most, -1, whole(least)},
		{api.PrimSub, 0, least, whole(least)},
		{api.PrimMul, 5, -2, whole(-10)},
		{api.PrimMul, least, -1, whole(least)},
		{api.PrimMul, most, most, whole(1)},
		{api.PrimMul, 1 << 16, 1 << 15, whole(least)},
		{api.PrimMul, 1 << 16, 1 << 16, whole(0)},
		{api.PrimLess, 2, 5, con(1)},
		{api.PrimLess, 5, 2, con(0)},
		{api.PrimLess, 5, 5, con(0)},
		{api.PrimLess, least, most, con(1)},
		{api.PrimLess, most, least, con(0)},
		{api.PrimLess, -1, 0, con(1)},
		{api.PrimSame, 5, 5, con(1)},
		{api.PrimSame, 2, 5, con(0)},
		{api.PrimSame, least, least, con(1)},
		{api.PrimSame, least, most, con(0)},
	}
	for _, c := range cases {
		if got, err := Prim(c.p, c.a, c.b); err != api.OK || !Same(got, c.want) {
			t.Errorf("Prim(%d, %d, %d): %v, %d", c.p, c.a, c.b, got, err)
		}
	}
}

func TestPrimThatThereIsNot(t *testing.T) {
	for _, p := range []int{0, 6, -1, 1 << 40} {
		if got, err := Prim(p, 1, 1); err != api.ErrKind || !Same(got, api.Value{}) {
			t.Errorf("Prim(%d, 1, 1): %v, %d", p, got, err)
		}
	}
}
