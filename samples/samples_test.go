package samples

import (
	"math/rand"
	"reflect"
	"testing"

	"mortise/api"
	"mortise/check"
	"mortise/desc"
	"mortise/layout"
)

// TestDescIsValid: all descriptions are valid, and there is much of everything that one may have.
func TestDescIsValid(t *testing.T) {
	random := rand.New(rand.NewSource(13))
	kinds, autos := map[int]int{}, map[int]int{}
	at, shared, is, others := 0, 0, 0, 0
	for range 5000 {
		d := Desc(random.Intn)
		if e := check.Check(d); e != api.OK {
			t.Fatalf("%v: %d", d, e)
		}
		if s, e := desc.Print(d); e != api.OK {
			t.Fatalf("%v: %q, %d", d, s, e)
		}
		for _, r := range d.Recs {
			for _, f := range r.Fields {
				kinds[f.Kind]++
				autos[f.Auto]++
				at += yes(f.At != "")
				shared += yes(f.Shared)
				is += yes(f.Is)
				others += yes(f.Else != "" && len(f.Cases) > 1)
			}
		}
	}
	for k := api.FInt; k <= api.FAlign; k++ {
		if kinds[k] < 500 {
			t.Errorf("kind %d: %d times", k, kinds[k])
		}
	}
	for k := api.AutoNone; k <= api.AutoAdler; k++ {
		if autos[k] < 500 {
			t.Errorf("computed %d: %d times", k, autos[k])
		}
	}
	if at < 500 || shared < 200 || is < 500 || others < 200 {
		t.Errorf("%d, %d, %d, %d", at, shared, is, others)
	}
}

// TestNodeIsLaidOut: for most descriptions there soon is a node that can be laid out.
func TestNodeIsLaidOut(t *testing.T) {
	random := rand.New(rand.NewSource(15))
	n := 0
	for range 1000 {
		d := Desc(random.Intn)
		for range 20 {
			if _, _, e := layout.Layout(d, Node(random.Intn, d), 10000); e == api.OK {
				n++
				break
			}
		}
	}
	if n < 700 {
		t.Errorf("%d of 1000", n)
	}
}

// TestCopySharesNothing: what is changed in a copy is not changed in what was copied.
func TestCopySharesNothing(t *testing.T) {
	random := rand.New(rand.NewSource(14))
	for range 500 {
		seed := random.Int63()
		d := Desc(rand.New(rand.NewSource(seed)).Intn)
		c := Copy(d)
		if !reflect.DeepEqual(c, d) {
			t.Fatalf("%v, not %v", c, d)
		}
		for i := range c.Exps {
			c.Exps[i].N++
		}
		for i := range c.Recs {
			c.Recs[i].Name += "x"
			for k := range c.Recs[i].Fields {
				f := &c.Recs[i].Fields[k]
				f.Width++
				for j := range f.Cases {
					f.Cases[j].N++
				}
			}
		}
		if again := Desc(rand.New(rand.NewSource(seed)).Intn); !reflect.DeepEqual(d, again) {
			t.Fatalf("%v, not %v", d, again)
		}
	}
}

func yes(ok bool) int {
	if ok {
		return 1
	}
	return 0
}
