package table_test

import (
	"math"
	"testing"

	"trivet/api"
	"trivet/table"
)

func TestP15_1_FormOfEachMethod(t *testing.T) {
	all := kinds()
	is(t, "how many methods", len(all), 36)
	for _, k := range all {
		if form, there := table.Form(k.class, k.id); form != k.form || !there {
			t.Errorf("Form of %s: %q, %v", k.name, form, there)
		}
	}
}

// none: that there is no such method, for none of the calls.
func none(t *testing.T, class, id int) {
	t.Helper()
	if form, there := table.Form(class, id); form != "" || there {
		t.Errorf("Form of %d, %d: %q, %v", class, id, form, there)
	}
	for _, m := range []api.Method{{}, {Nums: []int{0}}, {Texts: []string{""}}, {Nums: []int{5, 0}}} {
		m.Class, m.Id = class, id
		is(t, "Encode of no method", encode(m), puts{err: errArg})
	}
	if 0 <= class && class < 1<<16 && 0 <= id && id < 1<<16 {
		head := big(2, uint64(class)) + big(2, uint64(id))
		for _, rest := range []string{"", "\x00", "\x00\x00\x00\x00", "\x00\x00\x00\x00\x00\x00\x00\x05\x00"} {
			is(t, "Decode of no method", decode(head+rest), decodes{err: errForm})
		}
	}
}

func TestP15_1_NoOtherMethod(t *testing.T) {
	for class := -2; class < 130; class++ {
		for id := -2; id < 140; id++ {
			if _, there := kindOf(class, id); !there {
				none(t, class, id)
			}
		}
	}
	for _, k := range kinds() {
		for _, by := range []int{1 << 8, 1 << 16, 1 << 32, -1 << 8, -1 << 16, -1 << 32, math.MinInt} {
			none(t, k.class+by, k.id)
			none(t, k.class, k.id+by)
			none(t, k.class+by, k.id+by)
		}
		none(t, -k.class, k.id)
		none(t, k.class, -k.id)
		none(t, k.class<<8, k.id<<8)
		none(t, 0, k.class<<16|k.id)
		none(t, k.class<<16|k.id, 0)
	}
	for _, n := range []int{0, 65535, 65536, math.MaxInt32, math.MinInt32, math.MaxInt, math.MinInt} {
		for _, o := range []int{0, 10, 65535, 65536, math.MaxInt, math.MinInt} {
			none(t, n, o)
			none(t, o, n)
		}
	}
	none(t, 0, 2570)
}
